/-
  Contracts of the assembler of package asm: define and read.
-/
import Derived.Test.YtcplhochgngedaaGreatDoorAsmB
import Derived.Test.YtcplhochgngedaaGreatDoorMapW
namespace Go.Proofs.YtcplhochgngedaaGreatDoor.AsmC
open Go.ChangeShapes Go.WideShapes Go.ChangeAt Go.RowKit
open PlainT IsaE IsaS BlkW IsaA IsaB IsaF IsaP IsaQ IsaX IsaL AsmS AsmA AsmB IsaR MapW
set_option linter.unusedVariables false
set_option maxHeartbeats 1000000

/-- Rows of strings stay as they were. -/
def KeepS (w w' : World) : Prop := ∀ (b : Nat) (cs : Array Value) (fr : Nat × Nat), w.heap[b]? = some (.cells cs 9 fr) → w'.heap[b]? = some (.cells cs 9 fr)
theorem KeepS.refl (w : World) : KeepS w w := fun _ _ _ h => h
theorem KeepS.trans {a b c : World} (h : KeepS a b) (k : KeepS b c) : KeepS a c := fun g cs fr hg => k g cs fr (h g cs fr hg)
theorem KeepS.drewN {a b : World} (h : KeepS a b) (n : Nat) : KeepS a (b.drewN n) := h
theorem KeepS.old {a b c : World} (h : KeepS a b) (k : Old b c) : KeepS a c := h.trans fun g cs fr hg => (k.2 g (lt_of_some hg)).trans hg
theorem KeepS.below {a b c : World} (h : KeepS a b) (k : Below b.heap.size b c) : KeepS a c := h.old (.of_below k)
theorem KeepS.alloc {a b : World} (h : KeepS a b) (o : Obj) : KeepS a (b.alloc o) := h.old ((Old.refl b).alloc o)
/-! ### The assembler in memory. -/
theorem drew_below' (B : Nat) (w : World) : Below B w w.drew := ⟨rfl, rfl, rfl, Nat.le_refl _, fun _ _ => rfl⟩
def insCells (x : Int × Fields) : List Value := [.int .i64 x.1, .int .i64 x.2.a, .int .i64 x.2.b, .int .i64 x.2.c, .int .i64 x.2.i]
def rowCells (l : List (Int × Fields)) : List Value := l.flatMap insCells
def insOfItem (x : AItem) : Int × Fields := (x.k, x.q)
/-- The jumps to labels: position, name, line. -/
def jumpsOf : Nat → List AItem → List (Nat × List UInt8 × Nat)
  | _, [] => []
  | a, x :: r => if x.t = [] then jumpsOf (a + 1) r else (a, x.t, x.line) :: jumpsOf (a + 1) r
def jumpCells (J : List (Nat × List UInt8 × Nat)) : List Value := J.flatMap fun x => [.int .i64 x.1, .string (mk x.2.1), .int .i64 x.2.2]
theorem jumpsOf_snoc : ∀ (l : List AItem) (a : Nat) (x : AItem), jumpsOf a (l ++ [x]) = jumpsOf a l ++ (if x.t = [] then [] else [(a + l.length, x.t, x.line)])
  | [], a, x => by
    simp only [List.nil_append, jumpsOf, List.length_nil, Nat.add_zero]
  | y :: l, a, x => by
    rw [List.cons_append, jumpsOf, jumpsOf, jumpsOf_snoc l (a + 1) x, List.length_cons, show a + 1 + l.length = a + (l.length + 1) by omega]
    split <;> simp
theorem jumpsOf_le : ∀ (l : List AItem) (a : Nat), (jumpsOf a l).length ≤ l.length
  | [], a => Nat.le_refl _
  | y :: l, a => by
    have := jumpsOf_le l (a + 1)
    unfold jumpsOf
    split
    · rw [List.length_cons]; omega
    · rw [List.length_cons, List.length_cons]; omega
/-- What the map of labels holds. -/
def labC (L : List (List UInt8 × Nat)) : Lit → Option Lit
  | .string s => (lookN L s).map fun p => .int .i64 (p : Int)
  | _ => none
theorem keyed_s : Go.Maps.Keyed Tryz.prog 9 := Go.Maps.string_keyed Tryz.underlying9
theorem zero_int (w : World) : (zeroValue 3).run Tryz.prog w = .ok (.int .i64 0) w := by kernel_rfl
theorem info_ins : (Tryz.prog.info? 40).map (fun i => (i.zero, i.size, i.bytes)) = some (some (.agg #[.int .i64 0, .int .i64 0, .int .i64 0, .int .i64 0, .int .i64 0]), 5, 40) := by kernel_rfl
theorem info_jump : (Tryz.prog.info? 96).map (fun i => (i.zero, i.size, i.bytes)) = some (some (.agg #[.int .i64 0, .string ⟨#[]⟩, .int .i64 0]), 3, 32) := by kernel_rfl
/-- The assembler in block g: the program ps, the labels L, the jumps J. -/
structure AsmAt (B : Nat) (w : World) (g : Nat) (ps : List (Int × Fields)) (L : List (List UInt8 × Nat)) (J : List (Nat × List UInt8 × Nat)) (vp vj : Value) (m : Nat) : Prop where
  hg : B ≤ g
  hm : B ≤ m
  mem : Mem w g 48 #[vp, .map (some m), vj]
  prog : w.ownsRow B 40 5 vp ps.length (rowCells ps)
  labels : OwnM Tryz.prog 9 3 w m L.length (labC L)
  jumps : w.ownsRow B 96 3 vj J.length (jumpCells J)
section
variable {B : Nat} {w w' : World} {g m : Nat} {ps : List (Int × Fields)} {L : List (List UInt8 × Nat)} {J : List (Nat × List UInt8 × Nat)} {vp vj : Value}
theorem AsmAt.old (h : AsmAt B w g ps L J vp vj m) (o : Old w w') : AsmAt B w' g ps L J vp vj m := ⟨h.hg, h.hm, h.mem.old o, own_old h.prog o, h.labels.old o, own_old h.jumps o⟩
theorem AsmAt.below (h : AsmAt B w g ps L J vp vj m) (o : Below w.heap.size w w') : AsmAt B w' g ps L J vp vj m := h.old (.of_below o)
theorem AsmAt.drewN (h : AsmAt B w g ps L J vp vj m) (n : Nat) : AsmAt B (w.drewN n) g ps L J vp vj m := ⟨h.hg, h.hm, h.mem, h.prog, h.labels, h.jumps⟩
theorem AsmAt.drew (h : AsmAt B w g ps L J vp vj m) : AsmAt B w.drew g ps L J vp vj m := ⟨h.hg, h.hm, h.mem, h.prog, h.labels, h.jumps⟩
theorem AsmAt.alloc (h : AsmAt B w g ps L J vp vj m) (o : Obj) : AsmAt B (w.alloc o) g ps L J vp vj m := h.old ((Old.refl w).alloc o)
theorem AsmAt.size (h : AsmAt B w g ps L J vp vj m) : B ≤ w.heap.size := Nat.le_of_lt (Nat.lt_of_le_of_lt h.hm h.labels.lt)
end
def AsmOk (B : Nat) (w : World) (g : Nat) (st : St) : Prop := ∃ vp vj m, AsmAt B w g (st.items.map insOfItem) st.labels (jumpsOf 0 st.items) vp vj m
theorem AsmOk.below {B : Nat} {w w' : World} {g : Nat} {st : St} (h : AsmOk B w g st) (o : Below w.heap.size w w') : AsmOk B w' g st := by
  obtain ⟨vp, vj, m, h⟩ := h
  exact ⟨vp, vj, m, h.below o⟩
theorem AsmOk.drewN {B : Nat} {w : World} {g : Nat} {st : St} (h : AsmOk B w g st) (n : Nat) : AsmOk B (w.drewN n) g st := by
  obtain ⟨vp, vj, m, h⟩ := h
  exact ⟨vp, vj, m, h.drewN n⟩
theorem AsmOk.size {B : Nat} {w : World} {g : Nat} {st : St} (h : AsmOk B w g st) : B ≤ w.heap.size := by
  obtain ⟨vp, vj, m, h⟩ := h
  exact h.size
theorem jump_oneCell (x : Nat × List UInt8 × Nat) : ∀ u ∈ ([.int .i64 x.1, .string (mk x.2.1), .int .i64 x.2.2] : List Value), u.oneCell' = true := by
  intro u hu
  simp at hu
  rcases hu with rfl | rfl | rfl <;> rfl
theorem ins_oneCell (x : Int × Fields) : ∀ u ∈ insCells x, u.oneCell' = true := by
  intro u hu
  simp [insCells] at hu
  rcases hu with rfl | rfl | rfl | rfl | rfl <;> rfl
theorem jumpCells_snoc (J : List (Nat × List UInt8 × Nat)) (x : Nat × List UInt8 × Nat) : jumpCells (J ++ [x]) = jumpCells J ++ [.int .i64 x.1, .string (mk x.2.1), .int .i64 x.2.2] := by
  unfold jumpCells
  rw [List.flatMap_append]
  simp
theorem rowCells_snoc (ps : List (Int × Fields)) (x : Int × Fields) : rowCells (ps ++ [x]) = rowCells ps ++ insCells x := by
  unfold rowCells
  rw [List.flatMap_append]
  simp
theorem cell_lit {W : World} {T : TypeId} {l : List Value} : ∀ (j : Nat) u, l[j]? = some u → (W.alloc (.cells l.toArray T)).cell? ((⟨W.heap.size, 0, none⟩ : Addr).add j) = some u := by
  intro j u hu
  have e : (⟨W.heap.size, 0, none⟩ : Addr).add j = ⟨W.heap.size, j, none⟩ := by
    unfold Addr.add
    split
    · rename_i h; rw [h]
    · simp
  rw [e, (Mem.new W T l.toArray).cell j]
  simpa using hu
/-- What a push leaves: the run of append, and the assembler behind the store of the new slice. -/
def Pushed (B : Nat) (W : World) (g k : Nat) (v : Value) (w' : World) (v' : Value) (f : World → Prop) : Prop :=
  (∃ A n c, v' = .slice A n c) ∧ w'.cell? ⟨g, k, none⟩ = some v ∧ w'.frozen? ⟨g, k, none⟩ = false ∧ f (w'.setCell ⟨g, k, none⟩ v') ∧ Below B W (w'.setCell ⟨g, k, none⟩ v') ∧ W.heap.size ≤ (w'.setCell ⟨g, k, none⟩ v').heap.size ∧
    ∀ b, b < W.heap.size → b ≠ g → some b ≠ v.ownBlock → (w'.setCell ⟨g, k, none⟩ v').heap[b]? = W.heap[b]?
theorem Pushed.keep {B : Nat} {W : World} {g k : Nat} {v : Value} {w' : World} {v' : Value} {f : World → Prop} (h : Pushed B W g k v w' v' f) (hg : ∀ (cs : Array Value) (fr : Nat × Nat), W.heap[g]? ≠ some (.cells cs 9 fr)) (hv : ∀ (b : Nat) (cs : Array Value) (fr : Nat × Nat), W.heap[b]? = some (.cells cs 9 fr) → some b ≠ v.ownBlock) : KeepS W (w'.setCell ⟨g, k, none⟩ v') :=
  fun b cs fr hb => (h.2.2.2.2.2.2 b (lt_of_some hb) (fun e => hg cs fr (e ▸ hb)) (hv b cs fr hb)).trans hb
theorem push_jump {B : Nat} {W : World} {g m : Nat} {ps : List (Int × Fields)} {L : List (List UInt8 × Nat)} {J : List (Nat × List UInt8 × Nat)} {vp vj : Value} (h : AsmAt B W g ps L J vp vj m) (hJ : J.length ≤ 1000) (x : Nat × List UInt8 × Nat) :
    ∃ v' w', (Builtin.append_ #[46, 46] 46 #[vj, .slice (some ⟨W.heap.size, 0, none⟩) 1 1]).run Tryz.prog (W.drew.alloc (.cells #[.int .i64 x.1, .string (mk x.2.1), .int .i64 x.2.2] 96)) = .ok v' w' ∧
      Pushed B W g 2 vj w' v' fun w2 => AsmAt B w2 g ps L (J ++ [x]) vp v' m := by
  obtain ⟨i0, hi, hz0, hz1, hz2⟩ := info_parts info_jump
  have hd := (h.drew).alloc (.cells #[.int .i64 x.1, .string (mk x.2.1), .int .i64 x.2.2] 96)
  have hBs := h.size
  have hlt : g < W.heap.size := h.mem.lt
  have hws : (W.drew.alloc (.cells #[.int .i64 x.1, .string (mk x.2.1), .int .i64 x.2.2] 96)).heap.size = W.heap.size + 1 := size_new _ _
  obtain ⟨v', w', hrun, hown, hgr, -⟩ := run_append_own _ B 46 46 96 i0 _ 3 32 Tryz.underlying46 hi hz0 hz1 hz2 rfl (by decide) vj J.length (jumpCells J) hd.jumps ⟨W.heap.size, 0, none⟩ 1 1
    [.int .i64 x.1, .string (mk x.2.1), .int .i64 x.2.2] rfl (cell_lit (W := W.drew)) (jump_oneCell x) (by unfold maxLen; omega) (by omega) (by rw [hws]; omega)
  have hvg : vj.ownBlock ≠ some g := own_ne_mem hd.jumps hd.mem (by decide)
  have hmg : m ≠ g := map_ne_mem hd.labels hd.mem
  have hmem1 : Mem w' g 48 #[vp, .map (some m), vj] := (hgr.block g (by rw [hws]; omega) hvg.symm).trans hd.mem
  have hp1 : w'.ownsRow B 40 5 vp ps.length (rowCells ps) := hd.prog.kept hgr (own_ne_own hd.prog hd.jumps (by decide))
  have hl1 := hd.labels.grown hgr (own_ne_map hd.jumps hd.labels)
  have hv'g : v'.ownBlock ≠ some g := own_ne_mem hown hmem1 (by decide)
  have hvpg : vp.ownBlock ≠ some g := own_ne_mem hp1 hmem1 (by decide)
  obtain ⟨A', c', hv', -⟩ := own_slice hown
  refine ⟨v', w', hrun, ⟨_, _, _, hv'⟩, hmem1.cell 2, hmem1.frozen 2, ⟨h.hg, h.hm, hmem1.set_ 2 v', own_far hp1 hvpg v', hl1.setCell hmg v', ?_⟩, ?_, ?_, fun b hb hbg hbv => ?_⟩
  · rw [jumpCells_snoc, List.length_append]
    exact own_far hown hv'g v'
  · have hb0 : Below B W (W.drew.alloc (.cells #[.int .i64 x.1, .string (mk x.2.1), .int .i64 x.2.2] 96)) := (drew_below' B W).alloc hBs _
    exact (grown_below hb0 hgr (by rw [hws]; omega) (fun q hq => (hd.jumps.lt q hq).1)).setCell h.hg v'
  · have := hgr.size
    rw [hws] at this
    simp [World.setCell]; omega
  · rw [Below.heap_setCell w' _ v' b hbg, hgr.block b (by rw [hws]; omega) hbv]
    exact BlkW.heap_alloc_old W.drew _ b hb
theorem push_ins {B : Nat} {W : World} {g m : Nat} {ps : List (Int × Fields)} {L : List (List UInt8 × Nat)} {J : List (Nat × List UInt8 × Nat)} {vp vj : Value} (h : AsmAt B W g ps L J vp vj m) (hJ : ps.length ≤ 1000) (x : Int × Fields) :
    ∃ v' w', (Builtin.append_ #[23, 23] 23 #[vp, .slice (some ⟨W.heap.size, 0, none⟩) 1 1]).run Tryz.prog (W.drew.alloc (.cells #[.int .i64 x.1, .int .i64 x.2.a, .int .i64 x.2.b, .int .i64 x.2.c, .int .i64 x.2.i] 40)) = .ok v' w' ∧
      Pushed B W g 0 vp w' v' fun w2 => AsmAt B w2 g (ps ++ [x]) L J v' vj m := by
  obtain ⟨i0, hi, hz0, hz1, hz2⟩ := info_parts info_ins
  have hd := (h.drew).alloc (.cells #[.int .i64 x.1, .int .i64 x.2.a, .int .i64 x.2.b, .int .i64 x.2.c, .int .i64 x.2.i] 40)
  have hBs := h.size
  have hlt : g < W.heap.size := h.mem.lt
  have hws : (W.drew.alloc (.cells #[.int .i64 x.1, .int .i64 x.2.a, .int .i64 x.2.b, .int .i64 x.2.c, .int .i64 x.2.i] 40)).heap.size = W.heap.size + 1 := size_new _ _
  obtain ⟨v', w', hrun, hown, hgr, -⟩ := run_append_own _ B 23 23 40 i0 _ 5 40 Tryz.underlying23 hi hz0 hz1 hz2 rfl (by decide) vp ps.length (rowCells ps) hd.prog ⟨W.heap.size, 0, none⟩ 1 1
    (insCells x) rfl (cell_lit (W := W.drew) (l := insCells x)) (ins_oneCell x) (by unfold maxLen; omega) (by omega) (by rw [hws]; omega)
  have hvg : vp.ownBlock ≠ some g := own_ne_mem hd.prog hd.mem (by decide)
  have hmg : m ≠ g := map_ne_mem hd.labels hd.mem
  have hmem1 : Mem w' g 48 #[vp, .map (some m), vj] := (hgr.block g (by rw [hws]; omega) hvg.symm).trans hd.mem
  have hj1 : w'.ownsRow B 96 3 vj J.length (jumpCells J) := hd.jumps.kept hgr (own_ne_own hd.jumps hd.prog (by decide))
  have hl1 := hd.labels.grown hgr (own_ne_map hd.prog hd.labels)
  have hv'g : v'.ownBlock ≠ some g := own_ne_mem hown hmem1 (by decide)
  have hvjg : vj.ownBlock ≠ some g := own_ne_mem hj1 hmem1 (by decide)
  obtain ⟨A', c', hv', -⟩ := own_slice hown
  refine ⟨v', w', hrun, ⟨_, _, _, hv'⟩, hmem1.cell 0, hmem1.frozen 0, ⟨h.hg, h.hm, hmem1.set_ 0 v', ?_, hl1.setCell hmg v', own_far hj1 hvjg v'⟩, ?_, ?_, fun b hb hbg hbv => ?_⟩
  · rw [rowCells_snoc, List.length_append]
    exact own_far hown hv'g v'
  · have hb0 : Below B W (W.drew.alloc (.cells #[.int .i64 x.1, .int .i64 x.2.a, .int .i64 x.2.b, .int .i64 x.2.c, .int .i64 x.2.i] 40)) := (drew_below' B W).alloc hBs _
    exact (grown_below hb0 hgr (by rw [hws]; omega) (fun q hq => (hd.prog.lt q hq).1)).setCell h.hg v'
  · have := hgr.size
    rw [hws] at this
    simp [World.setCell]; omega
  · rw [Below.heap_setCell w' _ v' b hbg, hgr.block b (by rw [hws]; omega) hbv]
    exact BlkW.heap_alloc_old W.drew _ b hb
theorem key_of (n : List UInt8) (hn : n.length ≤ 100000) : keyOf Tryz.prog 9 (.string (mk n)) = some (.string n) := by
  have := Go.WideMaps.keyOf_string_mk (P := Tryz.prog) Tryz.underlying9 (s := mk n) (by rw [mk_len]; unfold maxLen; omega)
  rw [this]
  rw [show (mk n).data.toList = n from bts_mk n]
theorem lookN_snoc (L : List (List UInt8 × Nat)) (x : List UInt8) (p : Nat) (n : List UInt8) (h : lookN L x = none) : lookN (L ++ [(x, p)]) n = if n = x then some p else lookN L n := by
  unfold lookN at *
  rw [List.find?_append]
  by_cases e : n = x
  · subst e
    rw [if_pos rfl]
    have hf : L.find? (fun y => y.1 == n) = none := by
      cases hL : L.find? (fun y => y.1 == n) with
      | none => rfl
      | some y => rw [hL] at h; cases h
    rw [hf]
    simp
  · rw [if_neg e]
    cases hL : L.find? (fun y => y.1 == n) with
    | some y => rfl
    | none =>
      have : (x == n) = false := by rw [beq_eq_false_iff_ne]; exact fun e2 => e e2.symm
      simp [this]

/-! ### define. -/
theorem a_define_twice (B : Nat) (w : World) (g : Nat) (st : St) (n : List UInt8) (hn : n.length ≤ 100000) (h : AsmOk B w g st) (hl : (lookN st.labels n).isSome = true) : Calls Tryz.prog 51 #[.pointer (some ⟨g, 0, none⟩), .string (mk n)] w fun e w' => e = .returned (.int .i64 20) ∧ w = w' := by
  obtain ⟨vp, vj, m, h⟩ := h
  obtain ⟨p, hp⟩ := Option.isSome_iff_exists.1 hl
  have hrun := h.labels.hit_int (t := 45) keyed_s Tryz.underlying45 Tryz.underlying3 (zero_int w) (key_of n hn) trivial (c := (p : Int)) (by unfold labC; simp only; rw [hp]; rfl)
  have h1 : w.cell? ⟨g, 1, none⟩ = some (.map (some m)) := h.mem.cell 1
  clear hl hp h
  go_enter Tryz.func51, Tryz.ntmps51
  go_wp2
  go_ret
  exact ⟨rfl, rfl⟩
theorem grown_frame {B : Nat} {w0 w w' : World} {row : Option Nat} (h : Below B w0 w) (hB : B ≤ w.heap.size) (hg : w.grownBy w' row) (hr : ∀ g, row = some g → B ≤ g) : Below B w0 w' := grown_below h hg hB hr
def DefIs (B : Nat) (w : World) (g : Nat) (st : St) (e : Ending) (w' : World) : Prop := e = .returned (.int .i64 0) ∧ AsmOk B w' g st ∧ Below B w w' ∧ KeepS w w'
theorem a_define_new (B : Nat) (w : World) (g : Nat) (st : St) (n : List UInt8) (hn : n.length ≤ 100000) (hst : st.items.length ≤ 100000) (hll : st.labels.length < 100000) (h : AsmOk B w g st) (hl : lookN st.labels n = none) : Calls Tryz.prog 51 #[.pointer (some ⟨g, 0, none⟩), .string (mk n)] w fun e w' => DefIs B w g { st with labels := st.labels ++ [(n, st.items.length)] } e w' := by
  obtain ⟨vp, vj, m, h⟩ := h
  have hrun := h.labels.miss_int (t := 45) keyed_s Tryz.underlying45 Tryz.underlying3 (zero_int w) (key_of n hn) trivial (by unfold labC; simp only; rw [hl]; rfl)
  obtain ⟨A, c, rfl, hc1, hc2⟩ := own_slice h.prog
  rw [List.length_map] at h hc1
  have h1 : w.drew.cell? ⟨g, 1, none⟩ = some (.map (some m)) := h.mem.cell 1
  have h0 : w.drew.cell? ⟨g, 0, none⟩ = some (.slice A st.items.length c) := h.mem.cell 0
  have h1' : w.cell? ⟨g, 1, none⟩ = some (.map (some m)) := h.mem.cell 1
  have hd := h.drew
  obtain ⟨w', hst1, hm1, hg1⟩ := hd.labels.store (t := 45) (C' := labC (st.labels ++ [(n, st.items.length)])) (by omega) keyed_s Tryz.underlying45 (kl := .string n) (v := .int .i64 (st.items.length : Int))
    (by unfold labC; simp only; rw [lookN_snoc _ _ _ _ hl, if_pos rfl]; rfl)
    (fun k hk => by
      unfold labC
      cases k with
      | string s =>
        simp only
        rw [lookN_snoc _ _ _ _ hl, if_neg (fun e => hk (by rw [e]))]
      | _ => rfl)
    (key_of n hn) trivial (plainElem_int Tryz.underlying3 (WalkArith.wf_i64 (by omega)))
  have hBs : B ≤ w.drew.heap.size := Nat.le_of_lt (Nat.lt_of_le_of_lt h.hm h.labels.lt)
  have hp1 := own_of_block (w' := w') hd.prog (fun b hb => hg1.block b (hd.prog.lt b hb).2 (fun e => (own_ne_map hd.prog hd.labels) (by rw [hb, ← e])))
  have hj1 := own_of_block (w' := w') hd.jumps (fun b hb => hg1.block b (hd.jumps.lt b hb).2 (fun e => (own_ne_map hd.jumps hd.labels) (by rw [hb, ← e])))
  have hmm : w.drew.heap[g]? = some (.cells #[.slice A st.items.length c, .map (some m), vj] 48 (0, 0)) := hd.mem
  have hmg : m ≠ g := hd.labels.no_cells hmm
  have hmem1 : Mem w' g 48 #[.slice A st.items.length c, .map (some m), vj] := (hg1.block g hd.mem.lt (fun e => hmg (Option.some.inj e).symm)).trans hmm
  have hok : AsmOk B w' g { st with labels := st.labels ++ [(n, st.items.length)] } := ⟨_, vj, m, ⟨h.hg, h.hm, hmem1, hp1, by rw [List.length_append]; exact hm1, hj1⟩⟩
  have hB : Below B w w' := grown_below (drew_below' B w) hg1 hBs (fun q hq => by injection hq with hq; rw [← hq]; exact h.hm)
  have hK : KeepS w w' := fun b cs fr hb => (hg1.block b (lt_of_some (w := w) hb) (fun e => by
    have e2 : b = m := Option.some.inj e
    subst e2
    exact hd.labels.no_cells (w := w.drew) hb rfl)).trans hb
  clear hp1 hj1 hmem1 hm1 hg1 hd hl h hmm hmg
  go_enter Tryz.func51, Tryz.ntmps51
  go_wp2
  go_region
  all_goals
    go_wp2
    go_ret
    exact ⟨rfl, hok, hB, hK⟩

/-! ### read. -/
/-- What read leaves of a line. -/
def Read4 (B : Nat) (w : World) (g : Nat) (st : St) (n : Nat) (s : ByteArray) (e : Ending) (w' : World) : Prop :=
  Below B w w' ∧ KeepS w w' ∧ match stepL st n (bts s) with | .ok st' => e = .returned (.int .i64 0) ∧ AsmOk B w' g st' | .err _ er => er ≠ 0 ∧ e = .returned (.int .i64 er)
theorem Read4.ok {B : Nat} {w : World} {g : Nat} {st st' : St} {n : Nat} {s : ByteArray} {w' : World} (h : stepL st n (bts s) = .ok st') (hb : Below B w w') (hk : KeepS w w') (ha : AsmOk B w' g st') : Read4 B w g st n s (.returned (.int .i64 0)) w' :=
  ⟨hb, hk, by rw [h]; exact ⟨rfl, ha⟩⟩
theorem Read4.err {B : Nat} {w : World} {g : Nat} {st : St} {n l : Nat} {s : ByteArray} {w' : World} {er : Int} (h : stepL st n (bts s) = .err l er) (hb : Below B w w') (hk : KeepS w w') (h0 : er ≠ 0) : Read4 B w g st n s (.returned (.int .i64 er)) w' :=
  ⟨hb, hk, by rw [h]; exact ⟨h0, rfl⟩⟩
/-- The line without its comment. -/
def codeOf (s : ByteArray) : ByteArray := mk (bareL (bts s))
theorem code_size (s : ByteArray) : (codeOf s).size ≤ s.size := by
  unfold codeOf
  rw [mk_len, ← bytes_len]
  exact bare_len _
def CutIs (s : ByteArray) (w : World) (e : Ending) (w' : World) : Prop := ∃ x y, e = .returned (.tuple #[.string (codeOf s), .string x, .bool y]) ∧ ∃ n, w' = w.drewN n
theorem a_cut (s : ByteArray) (hs : s.size ≤ 100000) (w : World) (h : EnvM w) : Calls Tryz.prog 48 #[.string s, .string ⟨#[35]⟩] w fun e w' => CutIs s w e w' := by
  obtain ⟨m, hm⟩ := h.cell
  refine (Tryz.strings_Cut s ⟨#[35]⟩ m w (by omega) hm).mono ?_
  rintro e w' ⟨rfl, n, rfl⟩
  refine ⟨⟨(Lib.cut s.data.toList [35]).2.1.toArray⟩, (Lib.cut s.data.toList [35]).2.2, ?_, n, rfl⟩
  have : (Lib.cut s.data.toList [35]).1 = bareL (bts s) := cut_bare (bts s)
  rw [show (⟨#[35]⟩ : ByteArray).data.toList = [35] from rfl, this]
  rfl
theorem str_nonempty {l : List UInt8} (h : l ≠ []) : (mk l).toList.isEmpty = false := by
  rw [ByteArray.toList_eq, show (mk l).data.toList = l from bts_mk l]
  cases l with
  | nil => exact absurd rfl h
  | cons _ _ => rfl
theorem str_nonempty2 {l : List UInt8} (h : l ≠ []) : ((mk l).toList == (⟨#[]⟩ : ByteArray).toList) = false := str_ne (a := mk l) (b := ⟨#[]⟩) (by rw [bts_mk]; exact h)
theorem step_empty {st : St} {n : Nat} {s : ByteArray} (h : Lib.trimB (bts (codeOf s)) 32 = []) : stepL st n (bts s) = .ok st := by
  have hw : words (codeOf s) = [] := by rw [words_nil_iff, ← trim_nil_iff]; exact h
  unfold stepL kind
  rw [show mk (bareL (bts s)) = codeOf s from rfl, if_pos hw]
theorem step_kind {st : St} {n : Nat} {s : ByteArray} (h : Lib.trimB (bts (codeOf s)) 32 ≠ []) : stepL st n (bts s) =
    match (match labelOf ((words (codeOf s)).map bts) with
      | some x => Kind.label x
      | none => match jumpOf ((words (codeOf s)).map bts) with
        | some (k, q, x) => .ins k q x
        | none => match parseQ (codeOf s) with
          | some (k, q) => .ins k q []
          | none => .bad (parseE (codeOf s))) with
    | .empty => .ok st
    | .label x => if (lookN st.labels x).isSome then .err n 20 else .ok { st with labels := st.labels ++ [(x, st.items.length)] }
    | .ins k q t => if st.items.length = 64 then .err n 3 else .ok { st with items := st.items ++ [⟨k, q, t, n⟩] }
    | .bad e => .err n e := by
  have hw : words (codeOf s) ≠ [] := by rw [Ne, words_nil_iff, ← trim_nil_iff]; exact h
  unfold stepL kind
  rw [show mk (bareL (bts s)) = codeOf s from rfl, if_neg hw]
  rfl
theorem label_name {ws : List (List UInt8)} {x : List UInt8} (h : labelOf ws = some x) : isName x = true := by
  unfold labelOf at h
  split at h
  · split at h
    · rename_i hc
      injection h with h
      rw [← h]; exact hc.2
    · cases h
  · cases h
theorem jump_name {ws : List (List UInt8)} {k : Nat} {q : Fields} {n : List UInt8} (h : jumpOf ws = some (k, q, n)) : isName n = true := by
  unfold jumpOf at h
  split at h
  · split at h
    · rename_i hc
      injection h with h
      injection h with _ h
      injection h with _ h
      rw [← h]; exact hc.2
    · cases h
  · split at h
    · rename_i hc
      obtain ⟨v, _, e⟩ := Option.map_eq_some_iff.1 h
      injection e with _ e
      injection e with _ e
      rw [← e]; exact hc.2
    · cases h
  · cases h
theorem drewN_drewN (w : World) (a b : Nat) : (w.drewN a).drewN b = w.drewN (a + b) := by
  unfold World.drewN
  simp [Nat.add_assoc]
theorem read_empty (B : Nat) (w : World) (g : Nat) (st : St) (n : Nat) (s : ByteArray) (hs : s.size ≤ 100000) (hE : EnvM w) (h : AsmOk B w g st) (ht : Lib.trimB (bts (codeOf s)) 32 = []) :
    Calls Tryz.prog 21 #[.pointer (some ⟨g, 0, none⟩), .string s, .int .i64 n] w fun e w' => Read4 B w g st n s e w' := by
  have HS := Lib.hid (step_empty (st := st) (n := n) ht)
  have HT := Lib.hid ht
  have hc := code_size s
  clear ht
  go_enter Tryz.func21, Tryz.ntmps21
  go_wp2_with fail
  refine (a_cut s hs _ hE).mono ?_
  rintro e w1 ⟨x, y, rfl, n1, rfl⟩
  go_wp2_with fail
  refine (a_trim _ (Nat.le_trans hc hs) _).mono ?_
  rintro e w1 ⟨rfl, n2, rfl⟩
  rw [HT.out, show mk [] = ⟨#[]⟩ from rfl]
  go_wp2
  go_ret
  exact Read4.ok HS.out (below_drewN (Below.refl _ _) _) ((KeepS.refl w).drewN _) (h.drewN _)
theorem read_label (B : Nat) (w : World) (g : Nat) (st : St) (n : Nat) (s : ByteArray) (hs : s.size ≤ 100000) (hE : EnvM w) (h : AsmOk B w g st) (ht : Lib.trimB (bts (codeOf s)) 32 ≠ []) (hI : st.items.length ≤ 64) (hL : st.labels.length < 100000)
    (x : List UInt8) (hl : labelOf ((words (codeOf s)).map bts) = some x) :
    Calls Tryz.prog 21 #[.pointer (some ⟨g, 0, none⟩), .string s, .int .i64 n] w fun e w' => Read4 B w g st n s e w' := by
  obtain ⟨T, hT⟩ : ∃ T, Lib.trimB (bts (codeOf s)) 32 = T := ⟨_, rfl⟩
  have hx20 := (isName_all (label_name hl)).2.1
  have HS := Lib.hid (step_kind (st := st) (n := n) ht)
  rw [hT] at ht
  have HT := Lib.hid hT
  have HL := Lib.hid hl
  have ht1 := str_nonempty ht
  have ht2 := str_nonempty2 ht
  have hc := Nat.le_trans (code_size s) hs
  clear ht hT hl
  go_enter Tryz.func21, Tryz.ntmps21
  go_wp2_with fail
  refine (a_cut s hs _ hE).mono ?_
  rintro e w1 ⟨x1, y1, rfl, n1, rfl⟩
  go_wp2_with fail
  refine (a_trim _ hc _).mono ?_
  rintro e w1 ⟨rfl, n2, rfl⟩
  rw [HT.out]
  go_wp2_with fail
  refine (a_label _ hc _).mono ?_
  rintro e w1 ⟨⟨n3, rfl⟩, rfl⟩
  rw [HL.out]
  simp only
  have h3 := h.drewN (n1 + n2 + n3)
  have hb3 := below_drewN (Below.refl B w) (n1 + n2 + n3)
  cases hl : lookN st.labels x with
  | some p =>
    have HS2 := Lib.hid (show stepL st n (bts s) = .err n 20 by rw [HS.out, HL.out]; simp only; rw [hl]; rfl)
    go_wp2_with fail
    refine (a_define_twice B _ g st x (by omega) h3 (by rw [hl]; rfl)).mono ?_
    rintro e w1 ⟨rfl, rfl⟩
    clear hl
    go_wp2
    go_ret
    exact Read4.err HS2.out hb3 ((KeepS.refl w).drewN _) (by decide)
  | none =>
    have HS2 := Lib.hid (show stepL st n (bts s) = .ok { st with labels := st.labels ++ [(x, st.items.length)] } by rw [HS.out, HL.out]; simp only; rw [hl]; rfl)
    go_wp2_with fail
    refine (a_define_new B _ g st x (by omega) (by omega) hL h3 hl).mono ?_
    rintro e w1 ⟨rfl, h4, hb4, hk4⟩
    have hb5 := hb3.trans hb4
    clear hl hb4
    go_wp2
    go_ret
    exact Read4.ok HS2.out hb5 (((KeepS.refl w).drewN _).trans hk4) h4
theorem read_bad (B : Nat) (w : World) (g : Nat) (st : St) (n : Nat) (s : ByteArray) (hs : s.size ≤ 100000) (hE : EnvM w) (h : AsmOk B w g st) (ht : Lib.trimB (bts (codeOf s)) 32 ≠ [])
    (hl : labelOf ((words (codeOf s)).map bts) = none) (hj : jumpOf ((words (codeOf s)).map bts) = none) (hp : parseQ (codeOf s) = none) :
    Calls Tryz.prog 21 #[.pointer (some ⟨g, 0, none⟩), .string s, .int .i64 n] w fun e w' => Read4 B w g st n s e w' := by
  obtain ⟨T, hT⟩ : ∃ T, Lib.trimB (bts (codeOf s)) 32 = T := ⟨_, rfl⟩
  have HS := Lib.hid (show stepL st n (bts s) = .err n (parseE (codeOf s)) by rw [step_kind (st := st) (n := n) ht, hl, hj, hp])
  rw [hT] at ht
  have HT := Lib.hid hT
  have HL := Lib.hid hl
  have HJ := Lib.hid hj
  have HP := Lib.hid hp
  have HE := Lib.hid (parse_none hp)
  have hpe : (parseE (codeOf s) != 0) = true := by rw [bne_iff_ne]; exact HE.out
  have ht1 := str_nonempty ht
  have ht2 := str_nonempty2 ht
  have hc := Nat.le_trans (code_size s) hs
  clear ht hT hl hj hp
  go_enter Tryz.func21, Tryz.ntmps21
  go_wp2_with fail
  refine (a_cut s hs _ hE).mono ?_
  rintro e w1 ⟨x1, y1, rfl, n1, rfl⟩
  go_wp2_with fail
  refine (a_trim _ hc _).mono ?_
  rintro e w1 ⟨rfl, n2, rfl⟩
  rw [HT.out]
  go_wp2_with fail
  refine (a_label _ hc _).mono ?_
  rintro e w1 ⟨⟨n3, rfl⟩, rfl⟩
  rw [HL.out]
  simp only
  have hE3 := hE.drewN (n1 + n2 + n3)
  have hb3 := below_drewN (Below.refl B w) (n1 + n2 + n3)
  go_wp2_with fail
  refine (a_instruction _ hc _ hE3.env).mono ?_
  rintro e w1 ⟨hb4, rfl⟩
  rw [HJ.out]
  simp only
  rw [HP.out, show insR none = ins 0 0 0 0 0 from rfl]
  have hb5 := hb3.trans (hb4.mono h.size)
  have hk5 := ((KeepS.refl w).drewN (n1 + n2 + n3)).below hb4
  clear hb4 hE3
  go_wp2
  go_ret
  exact Read4.err HS.out (hb5.alloc (Nat.le_trans h.size hb5.size) _) (hk5.alloc _) HE.out
end Go.Proofs.YtcplhochgngedaaGreatDoor.AsmC
