/-
  Contracts of read and Parse of package isa.
-/
import Derived.Test.YtcplhochgngedaaGreatDoorIsaP
namespace Go.Proofs.YtcplhochgngedaaGreatDoor.IsaQ
open Go.ChangeShapes Go.WideShapes Go.ChangeAt Go.RowKit
open PlainT IsaE IsaS BlkW IsaA IsaB IsaF IsaP
set_option linter.unusedVariables false
set_option maxHeartbeats 400000

/-- The slice '.slice A n c' holds the strings ws. -/
def StrRow (w : World) (A : Option Addr) (n : Nat) (ws : List ByteArray) : Prop :=
  ws.length = n ∧ (0 < n → ∃ b off : Nat, A = some ⟨b, off, none⟩ ∧ b < w.heap.size ∧ ∀ (j : Nat) x, ws[j]? = some x → w.cell? ⟨b, off + j, none⟩ = some (.string x))
theorem StrRow.old {w w' : World} {A : Option Addr} {n : Nat} {ws : List ByteArray} (h : StrRow w A n ws) (k : Old w w') : StrRow w' A n ws :=
  ⟨h.1, fun hn => by
    obtain ⟨b, off, e, hb, hc⟩ := h.2 hn
    exact ⟨b, off, e, Nat.lt_of_lt_of_le hb k.1, fun j x hx => (k.cell (p := ⟨b, off + j, none⟩) hb).trans (hc j x hx)⟩⟩

/-- The fields A, B, C and Imm. -/
structure Fields where
  a : Int
  b : Int
  c : Int
  i : Int
def setF (l : UInt8) (v : Int) (q : Fields) : Fields := if l = 97 then { q with a := v } else if l = 98 then { q with b := v } else if l = 99 then { q with c := v } else { q with i := v }
/-- The operands that words spell. -/
def opers : List UInt8 → List (List UInt8) → Fields → Option Fields
  | [], _, q => some q
  | l :: ls, t :: ts, q => (operOf l t).bind fun v => opers ls ts (setF l v q)
  | _ :: _, [], _ => none
/-- The instruction that words denote, its operands not yet checked. -/
def readV (ws : List (List UInt8)) : Option (Nat × Fields) :=
  match ws with
  | [] => none
  | n :: r => (named n).bind fun x => if (letters x.1).length = r.length then (opers (letters x.1) r ⟨0, 0, 0, x.2⟩).map fun q => (x.1, q) else none
def insR (r : Option (Nat × Fields)) : Value := match r with | some (k, q) => ins k q.a q.b q.c q.i | none => ins 0 0 0 0 0
theorem named_lt {t : List UInt8} {k : Nat} {i : Int} (h : named t = some (k, i)) : k < 18 := by
  unfold named at h
  split at h
  · injection h with h
    injection h with h _
    omega
  · obtain ⟨j, hj, e⟩ := Option.map_eq_some_iff.1 h
    injection e with e _
    subst e
    unfold opOf at hj
    rw [List.findIdx?_eq_some_iff_getElem] at hj
    obtain ⟨hlt, _⟩ := hj
    exact hlt
def ReadIs (ws : List ByteArray) (w : World) (e : Ending) (w' : World) : Prop := Below w.heap.size w w' ∧ e = .returned (.tuple #[insR (readV (ws.map bts)), .bool (readV (ws.map bts)).isSome])
def qbox (k : Nat) (q : Fields) : Array Value := #[.int .i64 k, .int .i64 q.a, .int .i64 q.b, .int .i64 q.c, .int .i64 q.i]
theorem qbox_set (k : Nat) (q : Fields) (l : UInt8) (v : Int) (hl : l = 97 ∨ l = 98 ∨ l = 99 ∨ l = 110) : (qbox k q).setIfInBounds (fld l.toNat) (.int .i64 v) = qbox k (setF l v q) := by
  rcases hl with rfl | rfl | rfl | rfl <;> rfl
theorem qbox_old (k : Nat) (q : Fields) (l : UInt8) (hl : l = 97 ∨ l = 98 ∨ l = 99 ∨ l = 110) : ∃ u, (qbox k q)[fld l.toNat]? = some u := by
  rcases hl with rfl | rfl | rfl | rfl <;> exact ⟨_, rfl⟩
theorem opers_step {L : List UInt8} {R : List (List UInt8)} {p : Nat} {l : UInt8} {t : List UInt8} {q : Fields} (hl : L[p]? = some l) (ht : R[p]? = some t) :
    opers (L.drop p) (R.drop p) q = (operOf l t).bind fun v => opers (L.drop (p + 1)) (R.drop (p + 1)) (setF l v q) := by
  obtain ⟨h1, e1⟩ := List.getElem?_eq_some_iff.1 hl
  obtain ⟨h2, e2⟩ := List.getElem?_eq_some_iff.1 ht
  rw [List.drop_eq_getElem_cons h1, List.drop_eq_getElem_cons h2, e1, e2]
  rfl
theorem a_named_none (s : ByteArray) (hne : bts s ≠ []) (hn : named (bts s) = none) (w : World) (h : Env w) : Calls Tryz.prog 123 #[.string s] w fun e w' => e = .returned (.tuple #[ins 0 0 0 0 0, .bool false]) ∧ Below w.heap.size w w' :=
  (a_named s hne w h).mono fun e w' ⟨hb, he⟩ => ⟨by rw [he, hn]; rfl, hb⟩
theorem a_named_some (s : ByteArray) (hne : bts s ≠ []) {k : Nat} {i : Int} (hn : named (bts s) = some (k, i)) (w : World) (h : Env w) : Calls Tryz.prog 123 #[.string s] w fun e w' => e = .returned (.tuple #[ins k 0 0 0 i, .bool true]) ∧ Below w.heap.size w w' :=
  (a_named s hne w h).mono fun e w' ⟨hb, he⟩ => ⟨by rw [he, hn]; rfl, hb⟩
theorem a_read_none (A : Option Addr) (c : Nat) (w : World) : Calls Tryz.prog 108 #[.slice A 0 c] w fun e w' => ReadIs [] w e w' := by
  go_enter Tryz.func108, Tryz.ntmps108
  go_wp2
  refine bodyPost_ret (v := .tuple #[insR (readV []), .bool (readV []).isSome]) ?_ rfl ⟨below_new _ _, rfl⟩
  simp [results, Tryz.results108, go_sem, insR, readV]
theorem a_read_unnamed (A : Option Addr) (n c : Nat) (x : ByteArray) (r : List ByteArray) (w : World) (h : Env w) (hx : bts x ≠ []) (hr : StrRow w A n (x :: r)) (hn : named (bts x) = none) (hn62 : n < 4611686018427387904) : Calls Tryz.prog 108 #[.slice A n c] w fun e w' => ReadIs (x :: r) w e w' := by
  obtain ⟨hl, hc⟩ := hr
  obtain ⟨b, off, rfl, hb, hcell⟩ := hc (by rw [← hl]; simp)
  have h0 : w.cell? ⟨b, off, none⟩ = some (.string x) := hcell 0 x rfl
  have hn0 : 0 < n := by rw [← hl]; simp
  have HN := Lib.hid hn
  have HR := Lib.hid (show readV ((x :: r).map bts) = none by rw [List.map_cons]; unfold readV; simp only; rw [hn]; rfl)
  have HL := Lib.hid hl
  clear hl hc hcell hn
  go_enter Tryz.func108, Tryz.ntmps108
  go_wp2_with fail
  refine (a_named_none x hx HN.out _ (h.alloc _)).mono ?_
  rintro e w1 ⟨rfl, hb1⟩
  have hm1 : Mem w1 w.heap.size 40 #[.int .i64 0, .int .i64 0, .int .i64 0, .int .i64 0, .int .i64 0] := (Mem.new w _ _).below hb1 (by simp)
  obtain ⟨z0, z1, z2, z3, z4⟩ := boxed_cells (op := 0) (a := 0) (b := 0) (c := 0) (i := 0) hm1
  have hfz := hm1.frozen
  have hlt1 := hm1.lt
  have hbw := (below_new w (.cells #[.int .i64 0, .int .i64 0, .int .i64 0, .int .i64 0, .int .i64 0] 40)).trans (hb1.mono (by simp))
  have Y := Lib.hid (fun o => boxed_cells (op := 0) (a := 0) (b := 0) (c := 0) (i := 0) ((mem_store5 hm1 rfl (.int .i64 0) (.int .i64 0) (.int .i64 0) (.int .i64 0) (.int .i64 0)).alloc o))
  have hb2 := below_store5 hbw (Nat.le_refl _) (.int .i64 0) (.int .i64 0) (.int .i64 0) (.int .i64 0) (.int .i64 0)
  clear hb1 h0
  go_wp2
  refine bodyPost_ret (v := .tuple #[insR (readV ((x :: r).map bts)), .bool (readV ((x :: r).map bts)).isSome]) ?_ rfl ⟨hb2.alloc (by simp; omega) _, rfl⟩
  rw [HR.out]
  simp [results, Tryz.results108, go_sem, insR, (Y.out _).1, (Y.out _).2.1, (Y.out _).2.2.1, (Y.out _).2.2.2.1, (Y.out _).2.2.2.2]
theorem a_read_count (A : Option Addr) (n c : Nat) (x : ByteArray) (r : List ByteArray) (k : Nat) (i : Int) (w : World) (h : Env w) (hx : bts x ≠ []) (hr : StrRow w A n (x :: r)) (hn : named (bts x) = some (k, i)) (hcnt : (letters k).length ≠ r.length) (hn62 : n < 4611686018427387904) : Calls Tryz.prog 108 #[.slice A n c] w fun e w' => ReadIs (x :: r) w e w' := by
  obtain ⟨hl, hc⟩ := hr
  obtain ⟨b, off, rfl, hb, hcell⟩ := hc (by rw [← hl]; simp)
  have h0 : w.cell? ⟨b, off, none⟩ = some (.string x) := hcell 0 x rfl
  have hn0 : 0 < n := by rw [← hl]; simp
  have HN := Lib.hid hn
  have hk := named_lt hn
  have HR := Lib.hid (show readV ((x :: r).map bts) = none by rw [List.map_cons]; unfold readV; simp only; rw [hn, Option.bind_some]; simp only [List.length_map]; rw [if_neg hcnt])
  have hnr : n = r.length + 1 := by rw [← hl]; rfl
  have q : (((lettersB k).size : Int) != (n : Int) - 1) = true := by
    rw [bne_iff_ne, lettersB_size]
    omega
  clear hl hc hcell hn hcnt hnr
  go_enter Tryz.func108, Tryz.ntmps108
  go_wp2_with fail
  refine (a_named_some x hx HN.out _ (h.alloc _)).mono ?_
  rintro e w1 ⟨rfl, hb1⟩
  have hm1 : Mem w1 w.heap.size 40 #[.int .i64 0, .int .i64 0, .int .i64 0, .int .i64 0, .int .i64 0] := (Mem.new w _ _).below hb1 (by simp)
  obtain ⟨z0, z1, z2, z3, z4⟩ := boxed_cells (op := 0) (a := 0) (b := 0) (c := 0) (i := 0) hm1
  have hfz := hm1.frozen
  have hlt1 := hm1.lt
  have hbw := (below_new w (.cells #[.int .i64 0, .int .i64 0, .int .i64 0, .int .i64 0, .int .i64 0] 40)).trans (hb1.mono (by simp))
  have hE1 : Env w1 := (h.alloc _).below hb1
  have hcellk := fun o => shape_letters (hE1.alloc o) k hk
  have Y := Lib.hid (fun o => boxed_cells (op := 0) (a := 0) (b := 0) (c := 0) (i := 0) ((mem_store5 hm1 rfl (.int .i64 0) (.int .i64 0) (.int .i64 0) (.int .i64 0) (.int .i64 0)).alloc o))
  have hb2 := below_store5 hbw (Nat.le_refl _) (.int .i64 0) (.int .i64 0) (.int .i64 0) (.int .i64 0) (.int .i64 0)
  clear hb1 h0 hE1
  go_wp2
  refine bodyPost_ret (v := .tuple #[insR (readV ((x :: r).map bts)), .bool (readV ((x :: r).map bts)).isSome]) ?_ rfl ⟨hb2.alloc (by simp; omega) _, rfl⟩
  rw [HR.out]
  simp [results, Tryz.results108, go_sem, insR, (Y.out _).1, (Y.out _).2.1, (Y.out _).2.2.1, (Y.out _).2.2.2.1, (Y.out _).2.2.2.2]

theorem qbox_cells {w : World} {g : Nat} {t : TypeId} {k : Nat} {q : Fields} (h : Mem w g t (qbox k q)) : w.cell? ⟨g, 0, none⟩ = some (.int .i64 k) ∧ w.cell? ⟨g, 1, none⟩ = some (.int .i64 q.a) ∧ w.cell? ⟨g, 2, none⟩ = some (.int .i64 q.b) ∧ w.cell? ⟨g, 3, none⟩ = some (.int .i64 q.c) ∧ w.cell? ⟨g, 4, none⟩ = some (.int .i64 q.i) :=
  ⟨h.cell 0, h.cell 1, h.cell 2, h.cell 3, h.cell 4⟩
set_option maxRecDepth 100000 in
theorem a_read_opers (A : Option Addr) (n c : Nat) (x : ByteArray) (r : List ByteArray) (k : Nat) (i : Int) (w : World) (h : Env w) (hx : bts x ≠ []) (hsz : ∀ y ∈ r, y.size ≤ 281474976710656) (hr : StrRow w A n (x :: r)) (hn : named (bts x) = some (k, i)) (hcnt : (letters k).length = r.length) (hn62 : n < 4611686018427387904) : Calls Tryz.prog 108 #[.slice A n c] w fun e w' => ReadIs (x :: r) w e w' := by
  obtain ⟨hl, hc⟩ := hr
  obtain ⟨b, off, rfl, hb, hcell⟩ := hc (by rw [← hl]; simp)
  have h0 : w.cell? ⟨b, off, none⟩ = some (.string x) := hcell 0 x rfl
  have HC := Lib.hid hcell
  have hn0 : 0 < n := by rw [← hl]; simp
  have HN := Lib.hid hn
  have hk := named_lt hn
  have HR := Lib.hid (show readV ((x :: r).map bts) = (opers (letters k) (r.map bts) ⟨0, 0, 0, i⟩).map fun q => (k, q) by rw [List.map_cons]; unfold readV; simp only; rw [hn, Option.bind_some]; simp only [List.length_map]; rw [if_pos hcnt])
  have hnr : n = r.length + 1 := by rw [← hl]; rfl
  have q : (((lettersB k).size : Int) != (n : Int) - 1) = false := by
    rw [bne_eq_false_iff_eq, lettersB_size]
    omega
  have HM := Lib.hid hcnt
  have HNR := Lib.hid hnr
  clear hl hc hcell hn hcnt hnr
  go_enter Tryz.func108, Tryz.ntmps108
  go_wp2_with fail
  refine (a_named_some x hx HN.out _ (h.alloc _)).mono ?_
  rintro e w1 ⟨rfl, hb1⟩
  have hm1 : Mem w1 w.heap.size 40 #[.int .i64 0, .int .i64 0, .int .i64 0, .int .i64 0, .int .i64 0] := (Mem.new w _ _).below hb1 (by simp)
  have hlt1 := hm1.lt
  have hbw := (below_new w (.cells #[.int .i64 0, .int .i64 0, .int .i64 0, .int .i64 0, .int .i64 0] 40)).trans (hb1.mono (by simp))
  have hE1 : Env w1 := (h.alloc _).below hb1
  have hcellk := fun o => shape_letters (hE1.alloc o) k hk
  clear hb1 h0 hE1
  go_wp2
  clear hcellk q
  go_loopw [] (fun wr => ∃ p q, p ≤ (letters k).length ∧ It wr (w1.heap.size + 1) (lettersB k) p ∧ Mem wr w1.heap.size 40 (qbox k q) ∧ Mem wr w.heap.size 40 #[.int .i64 0, .int .i64 0, .int .i64 0, .int .i64 0, .int .i64 0] ∧ Hid (opers (letters k) (r.map bts) ⟨0, 0, 0, i⟩ = opers ((letters k).drop p) ((r.map bts).drop p) q) ∧ Below w.heap.size w wr ∧ w1.heap.size + 1 < wr.heap.size) (fun wr => (letters k).length - wr.iterPos (w1.heap.size + 1))
  case atStart =>
    refine ⟨0, ⟨0, 0, 0, i⟩, Nat.zero_le _, it_new1 _ _ _, (Mem.new w1 _ _).alloc _, (hm1.alloc _).alloc _, rfl, ?_, ?_⟩
    · exact (hbw.alloc (by omega) _).alloc (by rw [size_new]; omega) _
    · show _ < ((w1.alloc _).alloc _).heap.size
      rw [size_new, size_new]; omega
  case round =>
    obtain ⟨p, qf, hp, hit, hmi, hmr, hop, hbr, hszr⟩ := hrel
    clear hm1 hbw
    have hpos := Lib.hid hit.pos
    by_cases hlt : p < (letters k).length
    · obtain ⟨l, hl, hfr, hts, hs⟩ := letter_at k p hlt
      have hnx := next_letter k p l hlt hl hs hit
      have hpr : p < r.length := by rw [← HM.out]; exact hlt
      obtain ⟨t, ht⟩ : ∃ t, r[p]? = some t := ⟨r[p], List.getElem?_eq_getElem hpr⟩
      have hts2 := hsz t (List.mem_of_getElem? ht)
      have hstep := Lib.hid (opers_step (L := letters k) (R := r.map bts) (p := p) (q := qf) (l := l) (t := bts t) (by
        have e1 := congrArg (fun z => z[p]?) hts
        simp only [List.getElem?_take] at e1
        rw [if_pos (by omega), List.getElem?_append_right (by rw [List.length_take]; omega), List.length_take] at e1
        rw [e1, show p - min p (letters k).length = 0 by omega]; rfl) (by rw [List.getElem?_map, ht]; rfl))
      have hwc : wr.cell? ⟨b, off + (p + 1), none⟩ = some (.string t) := (hbr.cell (p := ⟨b, off + (p + 1), none⟩) hb).trans (HC.out (p + 1) t (by rw [List.getElem?_cons_succ]; exact ht))
      have hwc2 : (wr.iterAt (w1.heap.size + 1) (lettersB k) (p + 1)).cell? ⟨b, off + (p + 1), none⟩ = some (.string t) := by
        refine (World.cell?_of_block ?_).trans hwc
        exact Lib.iterAt_other _ _ _ _ _ (by show b ≠ _; omega)
      have hnp : p + 1 < n := by rw [HNR.out]; omega
      have hmi2 := hmi.iterAt (k := w1.heap.size + 1) (s := lettersB k) (q := p + 1) (by omega)
      have hmr2 := hmr.iterAt (k := w1.heap.size + 1) (s := lettersB k) (q := p + 1) (by omega)
      have hit2 := hit.on (p + 1)
      have hb2 := below_iter hbr (k := w1.heap.size + 1) (by omega) (lettersB k) (p + 1)
      have hsz2 := Lib.hid (Lib.iterAt_size wr (w1.heap.size + 1) (lettersB k) (p + 1))
      have hE2 : Env (wr.iterAt (w1.heap.size + 1) (lettersB k) (p + 1)) := h.below hb2
      have hu2 := letters_le k
      clear hwc hit hmi hmr hbr hs hts hfr ht
      go_wp2_with fail
      refine (a_readOperand l t hts2 _ hE2).mono ?_
      rintro e w3 ⟨hb3, v, rfl, hv⟩
      have hmi3 := hmi2.below hb3 (by rw [hsz2.out]; omega)
      have hmr3 := hmr2.below hb3 (by rw [hsz2.out]; omega)
      have hit3 := hit2.below hb3 (by rw [hsz2.out]; omega)
      have hbw3 := hb2.trans (hb3.mono (by rw [hsz2.out]; omega))
      have hsz3 : wr.heap.size ≤ w3.heap.size := by have := hb3.size; rw [hsz2.out] at this; exact this
      clear hb3 hmi2 hmr2 hit2 hb2 hE2 hnx hwc2
      cases ho : operOf l (bts t) with
      | none =>
        have HR2 := Lib.hid (show readV ((x :: r).map bts) = none by rw [HR.out, hop.out, hstep.out, ho]; rfl)
        clear hv ho
        obtain ⟨z0, z1, z2, z3, z4⟩ := boxed_cells (op := 0) (a := 0) (b := 0) (c := 0) (i := 0) hmr3
        have hfz := hmr3.frozen
        have Y := Lib.hid (boxed_cells (op := 0) (a := 0) (b := 0) (c := 0) (i := 0) (mem_store5 hmr3 rfl (.int .i64 0) (.int .i64 0) (.int .i64 0) (.int .i64 0) (.int .i64 0)))
        have hb4 := below_store5 hbw3 (Nat.le_refl _) (.int .i64 0) (.int .i64 0) (.int .i64 0) (.int .i64 0) (.int .i64 0)
        clear hmi3 hmr3 hit3
        go_wp2
        refine bodyPost_ret (v := .tuple #[insR (readV ((x :: r).map bts)), .bool (readV ((x :: r).map bts)).isSome]) ?_ rfl ⟨hb4, rfl⟩
        rw [HR2.out]
        simp [results, Tryz.results108, go_sem, insR, Y.out.1, Y.out.2.1, Y.out.2.2.1, Y.out.2.2.2.1, Y.out.2.2.2.2]
      | some u =>
        have hvu := hv u ho
        subst hvu
        have hop2 := Lib.hid (show opers (letters k) (r.map bts) ⟨0, 0, 0, i⟩ = opers ((letters k).drop (p + 1)) ((r.map bts).drop (p + 1)) (setF l v qf) by rw [hop.out, hstep.out, ho]; rfl)
        clear hv ho
        obtain ⟨u0, hu0⟩ := qbox_old k qf l hl
        obtain ⟨f, hf⟩ : ∃ f, fld l.toNat = f := ⟨_, rfl⟩
        have hold := hmi3.cell (fld l.toNat)
        rw [hu0, hf] at hold
        have hfz := hmi3.frozen f
        have hmi4 := hmi3.set_ (fld l.toNat) (.int .i64 v)
        rw [qbox_set k qf l v hl, hf] at hmi4
        have hmr4 := hmr3.far (a := ⟨w1.heap.size, f, none⟩) (by simp; omega) (.int .i64 v)
        have hit4 := hit3.far (a := ⟨w1.heap.size, f, none⟩) (by simp) (.int .i64 v)
        have hb4 := hbw3.setCell (p := ⟨w1.heap.size, f, none⟩) (by simp; omega) (.int .i64 v)
        have HF := Lib.hid hf
        clear hu0 hf hmi3 hmr3 hit3 hbw3 hl
        go_wp2_with (go_at_call 63; refine (a_field_any _ _ f HF.out _).mono ?_; rintro e w4 ⟨rfl, rfl⟩)
        go_roundw
        case rel => exact ⟨p + 1, setF l v qf, hlt, hit4, hmi4, hmr4, hop2, hb4, by show _ < (World.setCell _ _ _).heap.size; simp [World.setCell]; omega⟩
        case measure => exact meas hit4.pos hpos.out hlt
    · have hpe : p = (letters k).length := by omega
      have hnx := next_end k p hlt hit
      have HR2 := Lib.hid (show readV ((x :: r).map bts) = some (k, qf) by
        rw [HR.out, hop.out, hpe, List.drop_length]
        rfl)
      obtain ⟨y0, y1, y2, y3, y4⟩ := qbox_cells hmi
      obtain ⟨z0, z1, z2, z3, z4⟩ := boxed_cells (op := 0) (a := 0) (b := 0) (c := 0) (i := 0) hmr
      have hfz := hmr.frozen
      have Y := Lib.hid (qbox_cells (mem_store5 hmr rfl (.int .i64 k) (.int .i64 qf.a) (.int .i64 qf.b) (.int .i64 qf.c) (.int .i64 qf.i)))
      have hb4 := below_store5 hbr (Nat.le_refl _) (.int .i64 k) (.int .i64 qf.a) (.int .i64 qf.b) (.int .i64 qf.c) (.int .i64 qf.i)
      clear hmi hmr hit hbr hpe
      go_wp2
      refine bodyPost_ret (v := .tuple #[insR (readV ((x :: r).map bts)), .bool (readV ((x :: r).map bts)).isSome]) ?_ rfl ⟨hb4, rfl⟩
      rw [HR2.out]
      simp [results, Tryz.results108, go_sem, insR, Y.out.1, Y.out.2.1, Y.out.2.2.1, Y.out.2.2.2.1, Y.out.2.2.2.2]
theorem a_read (A : Option Addr) (n c : Nat) (ws : List ByteArray) (w : World) (h : Env w) (hne : ∀ x ∈ ws, bts x ≠ []) (hsz : ∀ y ∈ ws, y.size ≤ 281474976710656) (hr : StrRow w A n ws) (hn62 : n < 4611686018427387904) : Calls Tryz.prog 108 #[.slice A n c] w fun e w' => ReadIs ws w e w' := by
  cases ws with
  | nil =>
    obtain rfl : n = 0 := hr.1.symm
    exact a_read_none A c w
  | cons x r =>
    cases hn : named (bts x) with
    | none => exact a_read_unnamed A n c x r w h (hne x (by simp)) hr hn hn62
    | some q =>
      obtain ⟨k, i⟩ := q
      by_cases hc : (letters k).length = r.length
      · exact a_read_opers A n c x r k i w h (hne x (by simp)) (fun y hy => hsz y (by simp [hy])) hr hn hc hn62
      · exact a_read_count A n c x r k i w h (hne x (by simp)) hr hn hc hn62
end Go.Proofs.YtcplhochgngedaaGreatDoor.IsaQ
