/-
  Contract of the reference's jump (layer 4); rows that grow; its lists in memory.
-/
import Derived.Test.YtcplhochgngedaaGreatDoorRfA
import Derived.Test.YtcplhochgngedaaGreatDoorRefQ
import Derived.Maps.AppendAt
namespace Go.Proofs.YtcplhochgngedaaGreatDoor.RfB
open Go.ChangeShapes Go.WideShapes Go.ChangeAt Go.RowKit
open PlainT IsaE IsaS BlkW IsaA IsaB IsaF IsaP IsaQ IsaX IsaL AsmS AsmA AsmB IsaR MapW AsmC AsmR AsmE AsmF RfA RefA RefB RefF RefP RefQ
set_option linter.unusedVariables false
set_option maxHeartbeats 1000000

/-! ### jump. -/
def RJump (ws : List ByteArray) (w : World) (e : Ending) (w' : World) : Prop :=
  Below w.heap.size w w' ∧ ∃ k a b c i nm, e = .returned (.tuple #[ins k a b c i, .string nm, .bool (jumpOf (ws.map bts)).isSome]) ∧ ∀ k' q n, jumpOf (ws.map bts) = some (k', q, n) → k = k' ∧ a = q.a ∧ b = q.b ∧ c = q.c ∧ i = q.i ∧ nm = mk n
theorem RJump.no {ws : List ByteArray} {w w' : World} {k a b c i : Int} {nm : ByteArray} (h : jumpOf (ws.map bts) = none) (hb : Below w.heap.size w w') : RJump ws w (.returned (.tuple #[ins k a b c i, .string nm, .bool false])) w' :=
  ⟨hb, k, a, b, c, i, nm, by rw [h]; rfl, fun _ _ _ e => by rw [h] at e; cases e⟩
theorem RJump.yes {ws : List ByteArray} {w w' : World} {k : Nat} {q : Fields} {n : List UInt8} (h : jumpOf (ws.map bts) = some (k, q, n)) (hb : Below w.heap.size w w') : RJump ws w (.returned (.tuple #[ins k q.a q.b q.c q.i, .string (mk n), .bool true])) w' :=
  ⟨hb, k, q.a, q.b, q.c, q.i, mk n, by rw [h]; rfl, fun k' q' n' e => by rw [h] at e; injection e with e; injection e with e1 e; injection e with e2 e3; subst e1 e2 e3; exact ⟨rfl, rfl, rfl, rfl, rfl, rfl⟩⟩
theorem RJump.reg {ws : List ByteArray} {w w' : World} {k : Nat} {R : List UInt8} {v : Int} {y : ByteArray} (h : jumpOf (ws.map bts) = (regOf R).map fun v => (k, ⟨v, 0, 0, 0⟩, bts y)) (hv : ∀ u, regOf R = some u → v = u) (hb : Below w.heap.size w w') : RJump ws w (.returned (.tuple #[ins k v 0 0 0, .string y, .bool (regOf R).isSome])) w' := by
  refine ⟨hb, k, v, 0, 0, 0, y, by rw [h, Option.isSome_map], fun k' q n e => ?_⟩
  rw [h] at e
  obtain ⟨u, hu, e⟩ := Option.map_eq_some_iff.1 e
  have := hv u hu
  subst this
  injection e with e1 e
  injection e with e2 e3
  subst e1 e2 e3
  exact ⟨rfl, rfl, rfl, rfl, rfl, (mk_bts y).symm⟩
def jumpB : ByteArray := ⟨#[106, 117, 109, 112]⟩
def zeroB : ByteArray := ⟨#[122, 101, 114, 111]⟩
def nonzeroB : ByteArray := ⟨#[110, 111, 110, 122, 101, 114, 111]⟩
theorem ne_const {a b : ByteArray} (h : a ≠ b) : (a.toList == b.toList) = false := str_ne (fun e => h (IsaP.bytes_inj e))
theorem ne_lit {a : ByteArray} {l : List UInt8} (h : a ≠ mk l) : (a.toList == l) = false := by
  rw [beq_eq_false_iff_ne, ByteArray.toList_eq]
  intro e
  exact h (IsaP.bytes_inj (by rw [bts_mk]; exact e))
theorem r_jump_two (A : Option Addr) (cc : Nat) (x y : ByteArray) (hy : y.size ≤ 100000) (w : World) (hr : StrRow w A 2 [x, y]) : Calls Tryz.prog 27 #[.slice A 2 cc] w fun e w' => RJump [x, y] w e w' := by
  obtain ⟨b, off, rfl, hb, hc⟩ := hr.2 (by omega)
  have c0 : w.cell? ⟨b, off, none⟩ = some (.string x) := hc 0 x rfl
  have c1 : w.cell? ⟨b, off + 1, none⟩ = some (.string y) := hc 1 y rfl
  have hm := Mem.new w 40 (boxed 0 0 0 0 0)
  clear hr hc
  by_cases hx : x = jumpB
  · subst hx
    cases hn : isName (bts y) with
    | true =>
      have HN := Lib.hid hn
      have HJ := Lib.hid (show jumpOf ([jumpB, y].map bts) = some (4, ⟨0, 0, 0, 0⟩, bts y) by
        show jumpOf [bts jumpB, bts y] = _
        unfold jumpOf
        simp only
        rw [if_pos ⟨rfl, hn⟩])
      clear hn
      unfold jumpB at c0
      go_enter Tryz.func27, Tryz.ntmps27
      go_wp2_with (go_at_call 25; refine (r_Name _ _ HN.out hy _).mono ?_; rintro e w1 ⟨rfl, rfl⟩)
      go_region
      all_goals
        go_wp2
        refine bodyPost_ret (v := .tuple #[ins (4 : Nat) 0 0 0 0, .string (mk (bts y)), .bool true]) ?_ rfl (RJump.yes HJ.out (below_drewN (below_new _ _) 1))
        simp [results, Tryz.results27, go_sem, mk_bts]
    | false =>
      have HN := Lib.hid hn
      have HJ := Lib.hid (show jumpOf ([jumpB, y].map bts) = none by
        show jumpOf [bts jumpB, bts y] = _
        unfold jumpOf
        simp only
        rw [if_neg (by rw [hn]; simp)])
      clear hn
      unfold jumpB at c0
      go_enter Tryz.func27, Tryz.ntmps27
      go_wp2_with (go_at_call 25; refine (r_Name _ _ HN.out hy _).mono ?_; rintro e w1 ⟨rfl, rfl⟩)
      refine bodyPost_ret (v := .tuple #[ins 0 0 0 0 0, .string ⟨#[]⟩, .bool false]) ?_ rfl (RJump.no HJ.out (below_new _ _))
      simp [results, Tryz.results27, go_sem]
  · have HJ := Lib.hid (show jumpOf ([x, y].map bts) = none by
      show jumpOf [bts x, bts y] = _
      unfold jumpOf
      simp only
      rw [if_neg (fun h => hx (IsaP.bytes_inj h.1))])
    have hq : (x.toList == [106, 117, 109, 112]) = false := ne_lit hx
    clear hx
    go_enter Tryz.func27, Tryz.ntmps27
    go_wp2
    refine bodyPost_ret (v := .tuple #[ins 0 0 0 0 0, .string ⟨#[]⟩, .bool false]) ?_ rfl (RJump.no HJ.out (below_new _ _))
    simp [results, Tryz.results27, go_sem]
theorem r_jump_other (A : Option Addr) (n cc : Nat) (ws : List ByteArray) (h2 : n ≠ 2) (h3 : n ≠ 3) (hn : n ≤ 1000000) (w : World) (hr : StrRow w A n ws) : Calls Tryz.prog 27 #[.slice A n cc] w fun e w' => RJump ws w e w' := by
  have hl := hr.1
  have HJ := Lib.hid (show jumpOf (ws.map bts) = none by
    unfold jumpOf
    match ws, hl with
    | [], _ => rfl
    | [_], _ => rfl
    | [_, _], hl => exact absurd hl.symm h2
    | [_, _, _], hl => exact absurd hl.symm h3
    | _ :: _ :: _ :: _ :: _, _ => rfl)
  have q2 : ((n : Int) == 2) = false := by rw [beq_eq_false_iff_ne]; omega
  have q3 : ((n : Int) != 3) = true := by rw [bne_iff_ne]; omega
  clear hr hl
  go_enter Tryz.func27, Tryz.ntmps27
  go_wp2
  refine bodyPost_ret (v := .tuple #[ins 0 0 0 0 0, .string ⟨#[]⟩, .bool false]) ?_ rfl (RJump.no HJ.out (below_new _ _))
  simp [results, Tryz.results27, go_sem]
theorem jump_three {z r n : List UInt8} (hz : z = sZero ∨ z = sNonzero) (hn : isName n = true) : jumpOf [z, r, n] = (regOf r).map fun v => (if z = sNonzero then 6 else 5, ⟨v, 0, 0, 0⟩, n) := by
  unfold jumpOf
  simp only
  rw [if_pos ⟨hz, hn⟩]
theorem r_jump_three (A : Option Addr) (cc : Nat) (x r y : ByteArray) (hy : y.size ≤ 100000) (w : World) (hr : StrRow w A 3 [x, r, y]) : Calls Tryz.prog 27 #[.slice A 3 cc] w fun e w' => RJump [x, r, y] w e w' := by
  obtain ⟨b, off, rfl, hb, hc⟩ := hr.2 (by omega)
  have c0 : w.cell? ⟨b, off, none⟩ = some (.string x) := hc 0 x rfl
  have c1 : w.cell? ⟨b, off + 1, none⟩ = some (.string r) := hc 1 r rfl
  have c2 : w.cell? ⟨b, off + 2, none⟩ = some (.string y) := hc 2 y rfl
  clear hr hc
  have eJ : ∀ z : ByteArray, jumpOf ([z, r, y].map bts) = jumpOf [bts z, bts r, bts y] := fun _ => rfl
  by_cases hx : x = zeroB ∨ x = nonzeroB
  · cases hn : isName (bts y) with
    | false =>
      have HN := Lib.hid hn
      have HJ := Lib.hid (show jumpOf ([x, r, y].map bts) = none by
        rw [eJ]
        unfold jumpOf
        simp only
        rw [if_neg (by rw [hn]; simp)])
      clear hn eJ
      rcases hx with rfl | rfl
      · unfold zeroB at c0
        go_enter Tryz.func27, Tryz.ntmps27
        go_wp2_with (go_at_call 25; refine (r_Name _ _ HN.out hy _).mono ?_; rintro e w1 ⟨rfl, rfl⟩)
        refine bodyPost_ret (v := .tuple #[ins 0 0 0 0 0, .string ⟨#[]⟩, .bool false]) ?_ rfl (RJump.no HJ.out (below_new _ _))
        simp [results, Tryz.results27, go_sem]
      · unfold nonzeroB at c0
        go_enter Tryz.func27, Tryz.ntmps27
        go_wp2_with (go_at_call 25; refine (r_Name _ _ HN.out hy _).mono ?_; rintro e w1 ⟨rfl, rfl⟩)
        refine bodyPost_ret (v := .tuple #[ins 0 0 0 0 0, .string ⟨#[]⟩, .bool false]) ?_ rfl (RJump.no HJ.out (below_new _ _))
        simp [results, Tryz.results27, go_sem]
    | true =>
      have HN := Lib.hid hn
      have HJ := Lib.hid (show ∀ k : Nat, k = (if bts x = sNonzero then 6 else 5) → jumpOf ([x, r, y].map bts) = (regOf (bts r)).map fun v => (k, ⟨v, 0, 0, 0⟩, bts y) by
        rintro k rfl
        rw [eJ, jump_three (by rcases hx with rfl | rfl; exact .inl rfl; exact .inr rfl) hn])
      clear hn eJ
      rcases hx with rfl | rfl
      · have HJ2 := Lib.hid (HJ.out 5 (by decide))
        unfold zeroB at c0
        go_enter Tryz.func27, Tryz.ntmps27
        go_wp2_with (first | (go_at_call 25; refine (r_Name _ _ HN.out hy _).mono ?_; rintro e w1 ⟨rfl, rfl⟩) | fail)
        refine (r_Register r _).mono ?_
        rintro e w1 ⟨rfl, v, rfl, hv⟩
        have HVV := Lib.hid hv
        clear hv
        go_wp2
        go_region
        all_goals
          go_wp2
          refine bodyPost_ret (v := .tuple #[ins (5 : Nat) v 0 0 0, .string y, .bool (regOf (bts r)).isSome]) ?_ rfl (RJump.reg HJ2.out HVV.out (below_drewN (below_new _ _) 1))
          simp [results, Tryz.results27, go_sem]
      · have HJ2 := Lib.hid (HJ.out 6 (by decide))
        unfold nonzeroB at c0
        go_enter Tryz.func27, Tryz.ntmps27
        go_wp2_with (first | (go_at_call 25; refine (r_Name _ _ HN.out hy _).mono ?_; rintro e w1 ⟨rfl, rfl⟩) | fail)
        refine (r_Register r _).mono ?_
        rintro e w1 ⟨rfl, v, rfl, hv⟩
        have HVV := Lib.hid hv
        clear hv
        go_wp2
        go_region
        all_goals
          go_wp2
          refine bodyPost_ret (v := .tuple #[ins (6 : Nat) v 0 0 0, .string y, .bool (regOf (bts r)).isSome]) ?_ rfl (RJump.reg HJ2.out HVV.out (below_drewN (below_new _ _) 1))
          simp [results, Tryz.results27, go_sem]
  · have HJ := Lib.hid (show jumpOf ([x, r, y].map bts) = none by
      rw [eJ]
      unfold jumpOf
      simp only
      rw [if_neg (fun h => hx (by
        rcases h.1 with h | h
        · exact .inl (IsaP.bytes_inj h)
        · exact .inr (IsaP.bytes_inj h)))])
    have hq1 : (x.toList == [122, 101, 114, 111]) = false := ne_lit (fun e => hx (.inl e))
    have hq2 : (x.toList == [110, 111, 110, 122, 101, 114, 111]) = false := ne_lit (fun e => hx (.inr e))
    clear hx eJ
    go_enter Tryz.func27, Tryz.ntmps27
    go_wp2
    refine bodyPost_ret (v := .tuple #[ins 0 0 0 0 0, .string ⟨#[]⟩, .bool false]) ?_ rfl (RJump.no HJ.out (below_new _ _))
    simp [results, Tryz.results27, go_sem]
theorem r_jump (A : Option Addr) (n cc : Nat) (ws : List ByteArray) (hw : ∀ x ∈ ws, x.size ≤ 100000) (hn : n ≤ 1000000) (w : World) (hr : StrRow w A n ws) : Calls Tryz.prog 27 #[.slice A n cc] w fun e w' => RJump ws w e w' := by
  have hl := hr.1
  by_cases h2 : n = 2
  · subst h2
    match ws, hl with
    | [x, y], _ => exact r_jump_two A cc x y (hw y (by simp)) w hr
  · by_cases h3 : n = 3
    · subst h3
      match ws, hl with
      | [x, r, y], _ => exact r_jump_three A cc x r y (hw y (by simp)) w hr
    · exact r_jump_other A n cc ws h2 h3 hn w hr

/-! ### Rows that grow. -/
theorem wpList_append_run {P : Program} (w : World) {ops : Array Oper} {rest : List Oper} {o : Oper} {a : Act} {Q : Exit → Act → World → Prop} (hgd : o.guard = none) (s x : Operand) (t : TypeId)
    (ho : o.op = .call { callee := .builtin .append, args := #[s, x], argTypes := #[t, t] }) (vs vx v : Value) (w' : World) (hs : a.eval s = vs) (hx : a.eval x = vx) (hrun : (Builtin.append_ #[t, t] o.type #[vs, vx]).run P w = .ok v w')
    (h : wpList P ops Q rest (a.put o.dst v) w') : wpList P ops Q (o :: rest) a w := by
  refine wpList_plain hgd fun K hK => ?_
  unfold Oper.wp execOp
  simp only [ho, resolve, invoke, builtin, Sem.run_bind, Sem.run_pure, Result.andThen_ok, List.map_toArray, List.map_cons, List.map_nil, hs, hx, hrun]
  exact hK _ _ h
/-- What an append to an owned row leaves. -/
structure Grew (B : Nat) (w w' : World) (v v' : Value) : Prop where
  same : ∀ g, g < w.heap.size → some g ≠ v.ownBlock → w'.heap[g]? = w.heap[g]?
  below : Below B w w'
  size : w.heap.size ≤ w'.heap.size
  at_ : v'.ownBlock = v.ownBlock ∨ ∃ g, v'.ownBlock = some g ∧ w.heap.size ≤ g
theorem push_row {B : Nat} {w : World} {T e ty : TypeId} {z : Value} {size bytes : Nat} {v : Value} {n : Nat} {xs : List Value} (ht : Tryz.prog.underlying T = some (.slice e)) (hinfo : (Tryz.prog.info? e).map (fun i => (i.zero, i.size, i.bytes)) = some (some z, size, bytes)) (hzs : z.cells.size = size) (hsz : 0 < size)
    (hown : w.ownsRow B e size v n xs) (hB : B ≤ w.heap.size) (hn : n ≤ 1000000) (hby : bytes ≤ 1000) (news : List Value) (hl : news.length = size) (h1 : ∀ u ∈ news, u.oneCell' = true) :
    ∃ v' w', (Builtin.append_ #[T, T] ty #[v, .slice (some ⟨w.heap.size, 0, none⟩) 1 1]).run Tryz.prog (w.alloc (.cells news.toArray e)) = .ok v' w' ∧ (∃ A c, v' = .slice A (n + 1) c) ∧ w'.ownsRow B e size v' (n + 1) (xs ++ news) ∧ Grew B w w' v v' := by
  obtain ⟨i0, hi, hz0, hz1, hz2⟩ := info_parts hinfo
  have hd : (w.alloc (.cells news.toArray e)).ownsRow B e size v n xs := hown.alloc _
  have hws : (w.alloc (.cells news.toArray e)).heap.size = w.heap.size + 1 := size_new _ _
  have hb2 : (n + 1) * bytes ≤ 140737488355328 := Nat.le_trans (Nat.mul_le_mul (show n + 1 ≤ 1000001 by omega) hby) (by decide)
  obtain ⟨v', w', hrun, ho, hg, -, hat⟩ := run_append_own_at _ B T ty e i0 z size bytes ht hi hz0 hz1 hz2 hzs hsz v n xs hd ⟨w.heap.size, 0, none⟩ 1 1 news (by omega) cell_lit h1 (by unfold maxLen; omega) hb2 (by rw [hws]; omega)
  obtain ⟨A, c, hv, _⟩ := own_slice ho
  refine ⟨v', w', hrun, ⟨A, c, hv⟩, ho, ⟨fun g hg1 hg2 => ?_, ?_, ?_, ?_⟩⟩
  · rw [hg.block g (by rw [hws]; omega) hg2]
    exact BlkW.heap_alloc_old w _ g hg1
  · exact grown_below ((Below.refl B w).alloc hB _) hg (by rw [hws]; omega) (fun q hq => (hown.lt q hq).1)
  · have := hg.size; rw [hws] at this; omega
  · rcases hat with h | h
    · exact .inl h
    · exact .inr ⟨_, h, by rw [hws]; omega⟩
theorem Grew.row {B B' : Nat} {w w' : World} {v v' u : Value} {e : TypeId} {size n : Nat} {xs : List Value} (h : Grew B w w' v v') (hu : w.ownsRow B' e size u n xs) (hd : u.ownBlock = none ∨ u.ownBlock ≠ v.ownBlock) : w'.ownsRow B' e size u n xs :=
  own_of_block hu fun g hg => h.same g (hu.lt g hg).2 (fun e => by
    rcases hd with h0 | h0
    · rw [h0] at hg; cases hg
    · exact h0 (by rw [hg, e]))
theorem Grew.apart {B B' : Nat} {w w' : World} {v v' u : Value} {e : TypeId} {size n : Nat} {xs : List Value} (h : Grew B w w' v v') (hu : w.ownsRow B' e size u n xs) (hd : u.ownBlock = none ∨ u.ownBlock ≠ v.ownBlock) : u.ownBlock = none ∨ u.ownBlock ≠ v'.ownBlock := by
  rcases h.at_ with h1 | ⟨g, h1, h2⟩
  · rw [h1]; exact hd
  · cases hub : u.ownBlock with
    | none => exact .inl rfl
    | some k =>
      right
      rw [h1]
      intro e
      injection e with e
      have := (hu.lt k hub).2
      omega
theorem apart_symm {u v : Value} (h : u.ownBlock = none ∨ u.ownBlock ≠ v.ownBlock) : v.ownBlock = none ∨ v.ownBlock ≠ u.ownBlock := by
  cases hv : v.ownBlock with
  | none => exact .inl rfl
  | some k =>
    right
    rcases h with h | h
    · rw [h]; simp
    · rw [hv] at h; exact fun e => h e.symm

/-! ### The reference's lists. -/
structure RefAt (B : Nat) (w : World) (items : List AItem) (L : List (List UInt8 × Nat)) (vp vn vt vd vl : Value) : Prop where
  prog : w.ownsRow B 40 5 vp items.length (rowCells (items.map insOfItem))
  names : w.ownsRow B 9 1 vn L.length (L.map fun y => .string (mk y.1))
  tgts : w.ownsRow B 9 1 vt items.length (items.map fun x => .string (mk x.t))
  places : w.ownsRow B 3 1 vd L.length (L.map fun y => .int .i64 (y.2 : Int))
  lines : w.ownsRow B 3 1 vl items.length (items.map fun x => .int .i64 (x.line : Int))
  d1 : vn.ownBlock = none ∨ vn.ownBlock ≠ vt.ownBlock
  d2 : vd.ownBlock = none ∨ vd.ownBlock ≠ vl.ownBlock
theorem RefAt.old {B : Nat} {w w' : World} {items : List AItem} {L : List (List UInt8 × Nat)} {vp vn vt vd vl : Value} (h : RefAt B w items L vp vn vt vd vl) (o : Old w w') : RefAt B w' items L vp vn vt vd vl :=
  ⟨own_old h.prog o, own_old h.names o, own_old h.tgts o, own_old h.places o, own_old h.lines o, h.d1, h.d2⟩
theorem RefAt.below {B : Nat} {w w' : World} {items : List AItem} {L : List (List UInt8 × Nat)} {vp vn vt vd vl : Value} (h : RefAt B w items L vp vn vt vd vl) (o : Below w.heap.size w w') : RefAt B w' items L vp vn vt vd vl := h.old (.of_below o)
theorem RefAt.alloc {B : Nat} {w : World} {items : List AItem} {L : List (List UInt8 × Nat)} {vp vn vt vd vl : Value} (h : RefAt B w items L vp vn vt vd vl) (o : Obj) : RefAt B (w.alloc o) items L vp vn vt vd vl := h.old ((Old.refl w).alloc o)
theorem push_label {B : Nat} {w : World} {items : List AItem} {L : List (List UInt8 × Nat)} {vp vn vt vd vl : Value} (h : RefAt B w items L vp vn vt vd vl) (hB : B ≤ w.heap.size) (hL : L.length ≤ 100000) (x : List UInt8) (p : Nat) :
    ∃ v1 w1 v2 w2, (Builtin.append_ #[43, 43] 43 #[vn, .slice (some ⟨w.heap.size, 0, none⟩) 1 1]).run Tryz.prog (w.alloc (.cells #[.string (mk x)] 9)) = .ok v1 w1 ∧
      (Builtin.append_ #[29, 29] 29 #[vd, .slice (some ⟨w1.heap.size, 0, none⟩) 1 1]).run Tryz.prog (w1.alloc (.cells #[.int .i64 (p : Int)] 3)) = .ok v2 w2 ∧
      RefAt B w2 items (L ++ [(x, p)]) vp v1 vt v2 vl ∧ Below B w w2 := by
  obtain ⟨v1, w1, hr1, -, ho1, hg1⟩ := push_row (ty := 43) Tryz.underlying43 info_string rfl (by decide) h.names hB (by omega) (by decide) [.string (mk x)] rfl (by intro u hu; simp at hu; subst hu; rfl)
  have hd1 := hg1.row h.places (own_ne_own h.places h.names (by decide))
  obtain ⟨v2, w2, hr2, -, ho2, hg2⟩ := push_row (ty := 29) Tryz.underlying29 info_int rfl (by decide) hd1 (Nat.le_trans hB hg1.size) (by omega) (by decide) [.int .i64 (p : Int)] rfl (by intro u hu; simp at hu; subst hu; rfl)
  refine ⟨v1, w1, v2, w2, hr1, hr2, ?_, hg1.below.trans hg2.below⟩
  have hp1 := hg1.row h.prog (own_ne_own h.prog h.names (by decide))
  have ht1 := hg1.row h.tgts (apart_symm h.d1)
  have hl1 := hg1.row h.lines (own_ne_own h.lines h.names (by decide))
  have e1 : w2.ownsRow B 9 1 v1 (L ++ [(x, p)]).length ((L ++ [(x, p)]).map fun y => .string (mk y.1)) := by
    rw [List.length_append, List.map_append]
    exact hg2.row ho1 (own_ne_own ho1 hd1 (by decide))
  have e2 : w2.ownsRow B 3 1 v2 (L ++ [(x, p)]).length ((L ++ [(x, p)]).map fun y => .int .i64 (y.2 : Int)) := by
    rw [List.length_append, List.map_append]
    exact ho2
  refine ⟨hg2.row hp1 (own_ne_own hp1 hd1 (by decide)), e1, hg2.row ht1 (own_ne_own ht1 hd1 (by decide)), e2, hg2.row hl1 (apart_symm h.d2), ?_, ?_⟩
  · exact apart_symm (hg1.apart h.tgts (apart_symm h.d1))
  · exact apart_symm (hg2.apart hl1 (apart_symm h.d2))
theorem push_item {B : Nat} {w : World} {items : List AItem} {L : List (List UInt8 × Nat)} {vp vn vt vd vl : Value} (h : RefAt B w items L vp vn vt vd vl) (hB : B ≤ w.heap.size) (hL : items.length ≤ 100000) (x : AItem) :
    ∃ v1 w1 v2 w2 v3 w3, (Builtin.append_ #[23, 23] 23 #[vp, .slice (some ⟨w.heap.size, 0, none⟩) 1 1]).run Tryz.prog (w.alloc (.cells #[.int .i64 x.k, .int .i64 x.q.a, .int .i64 x.q.b, .int .i64 x.q.c, .int .i64 x.q.i] 40)) = .ok v1 w1 ∧
      (Builtin.append_ #[43, 43] 43 #[vt, .slice (some ⟨w1.heap.size, 0, none⟩) 1 1]).run Tryz.prog (w1.alloc (.cells #[.string (mk x.t)] 9)) = .ok v2 w2 ∧
      (Builtin.append_ #[29, 29] 29 #[vl, .slice (some ⟨w2.heap.size, 0, none⟩) 1 1]).run Tryz.prog (w2.alloc (.cells #[.int .i64 (x.line : Int)] 3)) = .ok v3 w3 ∧
      (∃ A c, v1 = .slice A (items.length + 1) c) ∧ RefAt B w3 (items ++ [x]) L v1 vn v2 vd v3 ∧ Below B w w3 := by
  obtain ⟨v1, w1, hr1, hs1, ho1, hg1⟩ := push_row (ty := 23) Tryz.underlying23 info_ins rfl (by decide) h.prog hB (by omega) (by decide) (insCells (insOfItem x)) rfl (ins_oneCell _)
  have ht1 := hg1.row h.tgts (own_ne_own h.tgts h.prog (by decide))
  have hn1 := hg1.row h.names (own_ne_own h.names h.prog (by decide))
  have hd1 := hg1.row h.places (own_ne_own h.places h.prog (by decide))
  have hl1 := hg1.row h.lines (own_ne_own h.lines h.prog (by decide))
  obtain ⟨v2, w2, hr2, -, ho2, hg2⟩ := push_row (ty := 43) Tryz.underlying43 info_string rfl (by decide) ht1 (Nat.le_trans hB hg1.size) (by omega) (by decide) [.string (mk x.t)] rfl (by intro u hu; simp at hu; subst hu; rfl)
  have hl2 := hg2.row hl1 (own_ne_own hl1 ht1 (by decide))
  have hd2 := hg2.row hd1 (own_ne_own hd1 ht1 (by decide))
  have hn2 := hg2.row hn1 h.d1
  have hp2 := hg2.row ho1 (own_ne_own ho1 ht1 (by decide))
  obtain ⟨v3, w3, hr3, -, ho3, hg3⟩ := push_row (ty := 29) Tryz.underlying29 info_int rfl (by decide) hl2 (Nat.le_trans hB (Nat.le_trans hg1.size hg2.size)) (by omega) (by decide) [.int .i64 (x.line : Int)] rfl (by intro u hu; simp at hu; subst hu; rfl)
  refine ⟨v1, w1, v2, w2, v3, w3, hr1, hr2, hr3, hs1, ?_, (hg1.below.trans hg2.below).trans hg3.below⟩
  have e1 : w3.ownsRow B 40 5 v1 (items ++ [x]).length (rowCells ((items ++ [x]).map insOfItem)) := by
    rw [List.length_append, List.map_append, List.map_cons, List.map_nil, rowCells_snoc]
    exact hg3.row hp2 (own_ne_own hp2 hl2 (by decide))
  have e2 : w3.ownsRow B 9 1 v2 (items ++ [x]).length ((items ++ [x]).map fun x => .string (mk x.t)) := by
    rw [List.length_append, List.map_append]
    exact hg3.row ho2 (own_ne_own ho2 hl2 (by decide))
  have e3 : w3.ownsRow B 3 1 v3 (items ++ [x]).length ((items ++ [x]).map fun x => .int .i64 (x.line : Int)) := by
    rw [List.length_append, List.map_append]
    exact ho3
  refine ⟨e1, hg3.row hn2 (own_ne_own hn2 hl2 (by decide)), e2, hg3.row hd2 h.d2, e3, ?_, ?_⟩
  · exact hg2.apart hn1 h.d1
  · exact hg3.apart hd2 h.d2
end Go.Proofs.YtcplhochgngedaaGreatDoor.RfB
