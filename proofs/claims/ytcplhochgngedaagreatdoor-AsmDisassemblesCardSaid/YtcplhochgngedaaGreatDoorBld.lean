/-
  Contracts of strings.Builder's copyCheck and WriteString at a builder that the call itself has made, over this program (its copyCheck holds an operation that the loader refuses, on a way that no such builder takes: so the shelf's contracts don't fit).
-/
import Derived.Test.YtcplhochgngedaaGreatDoorAsmB
import Derived.Test.YtcplhochgngedaaGreatDoorMapW
import Derived.Shelf.Strings.Builder1
namespace Go.Proofs.YtcplhochgngedaaGreatDoor.Bld
open Go.ChangeShapes Go.WideShapes Go.ChangeAt Go.RowKit
open PlainT IsaE IsaS BlkW IsaA IsaB IsaF IsaP IsaQ IsaX IsaL AsmS AsmA AsmB MapW
set_option linter.unusedVariables false

/-- Boxes of instructions stay as they were. -/
def KeepI (w w' : World) : Prop := ∀ (b : Nat) (cs : Array Value), Mem w b 40 cs → Mem w' b 40 cs
theorem KeepI.refl (w : World) : KeepI w w := fun _ _ h => h
theorem KeepI.trans {a b c : World} (h : KeepI a b) (k : KeepI b c) : KeepI a c := fun g cs hg => k g cs (h g cs hg)
theorem KeepI.drewN {a b : World} (h : KeepI a b) (n : Nat) : KeepI a (b.drewN n) := h
theorem KeepI.old {a b c : World} (h : KeepI a b) (k : Old b c) : KeepI a c := h.trans fun g cs hg => hg.old k
theorem KeepI.below {a b c : World} (h : KeepI a b) (k : Below b.heap.size b c) : KeepI a c := h.old (.of_below k)
theorem KeepI.set_b {a w : World} {b : Nat} {x : Array Value} {fr : Nat × Nat} (h : KeepI a w) (hb : w.heap[b]? = some (.cells x 66 fr)) (k : Nat) (u : Value) : KeepI a (w.setCell ⟨b, k, none⟩ u) :=
  h.trans fun g cs hg => hg.far (a := ⟨b, k, none⟩) (fun e => by
    change g = b at e
    subst e
    unfold Mem at hg
    rw [hb] at hg
    simp at hg) u
theorem KeepI.grown {a w w' : World} {r : Option Nat} (h : KeepI a w) (hg : w.grownBy w' r) (hr : ∀ (b : Nat) (cs : Array Value), Mem w b 40 cs → some b ≠ r) : KeepI a w' :=
  h.trans fun g cs hm => (hg.block g hm.lt (hr g cs hm)).trans hm

theorem size_builder : (Tryz.prog.info? 66).map (·.size) = some 2 := by kernel_rfl
theorem lies_builder : liesAt Tryz.prog Tryz.prog.depth 66 (2 / Tryz.prog.cellsOf 66) 0 66 1 = true := by kernel_rfl
theorem info_byte : (Tryz.prog.info? 5).map (fun i => (i.zero, i.size, i.bytes)) = some (some (.int .u8 0), 1, 1) := by kernel_rfl
set_option maxHeartbeats 1000000 in
set_option maxRecDepth 100000 in
theorem copy_used (b : Nat) (w : World) (h0 : w.cell? ⟨b, 0, none⟩ = some (.pointer (some ⟨b, 0, none⟩))) :
    Calls Tryz.prog 60 #[.pointer (some ⟨b, 0, none⟩)] w fun e w' => e = .returned (.tuple #[]) ∧ w' = w := by
  obtain ⟨j, hj, _⟩ := Option.map_eq_some_iff.1 size_builder
  go_enter Tryz.func60, Tryz.ntmps60
  go_wp2
  rw [Lib.run_neq_ptr_same w _ Tryz.underlying63 hj]
  go_wp2
  go_end0
  exact ⟨rfl, rfl⟩
set_option maxHeartbeats 1000000 in
set_option maxRecDepth 100000 in
theorem copy_fresh (b : Nat) (w : World) (h0 : w.cell? ⟨b, 0, none⟩ = some (.pointer none)) (hsh : w.shape? b = some (66, 2)) (hfz : w.frozen? ⟨b, 0, none⟩ = false) :
    Calls Tryz.prog 60 #[.pointer (some ⟨b, 0, none⟩)] w fun e w' => e = .returned (.tuple #[]) ∧ w' = w.setCell ⟨b, 0, none⟩ (.pointer (some ⟨b, 0, none⟩)) := by
  obtain ⟨j, hj, hjs⟩ := Option.map_eq_some_iff.1 size_builder
  go_enter Tryz.func60, Tryz.ntmps60
  go_wp2
  rw [Lib.run_to_unsafe w ⟨b, 0, none⟩ Tryz.underlying63 Tryz.underlying131 hj (by rw [hjs]; decide) hsh (Nat.zero_lt_succ 1)]
  simp only [Result.andThen]
  rw [Oper.upon_value]
  go_wp2
  rw [run_callFunc_extern Tryz.func89 (by kernel_rfl) (by kernel_rfl) (by kernel_rfl) (e := Extern.AbiNoEscape.same) (by kernel_rfl)]
  rw [Lib.run_noEscape]
  simp only [Result.andThen]
  rw [Oper.upon_value]
  go_wp2
  rw [Lib.run_from_unsafe w ⟨b, 0, none⟩ Tryz.underlying131 Tryz.underlying63 hj hsh lies_builder]
  simp only [Result.andThen]
  rw [Oper.upon_value]
  go_wp2
  go_end0
  exact ⟨rfl, rfl⟩
theorem copy_check (B b : Nat) (bs : List Value) (w : World) (h : Lib.IsBuilder 66 5 B b bs w) :
    Calls Tryz.prog 60 #[.pointer (some ⟨b, 0, none⟩)] w fun e w' => e = .returned (.tuple #[]) ∧ (Lib.BuilderAt 66 5 B b (.pointer (some ⟨b, 0, none⟩)) bs w' ∧ Below B w w' ∧ KeepI w w') := by
  rcases h with h | h
  · refine (copy_fresh b w h.cell0 h.shape h.frozen0).mono ?_
    rintro e w' ⟨rfl, rfl⟩
    exact ⟨rfl, h.used _, (Below.refl B w).setCell (p := ⟨b, 0, none⟩) h.1 _, by obtain ⟨_, v, hv, _⟩ := h; exact (KeepI.refl w).set_b hv 0 _⟩
  · refine (copy_used b w h.cell0).mono ?_
    rintro e w' ⟨rfl, rfl⟩
    exact ⟨rfl, h, Below.refl B _, KeepI.refl _⟩
set_option maxHeartbeats 2000000 in
set_option maxRecDepth 100000 in
theorem write_string (B b : Nat) (bs : List Value) (s : ByteArray) (w : World) (h : Lib.IsBuilder 66 5 B b bs w) (hlen : bs.length + s.size ≤ 140737488355328) (hBw : B ≤ w.heap.size) :
    Calls Tryz.prog 32 #[.pointer (some ⟨b, 0, none⟩), .string s] w fun e w' => e = .returned (.tuple #[.int .i64 s.size, .nilIface]) ∧ (Lib.BuilderAt 66 5 B b (.pointer (some ⟨b, 0, none⟩)) (bs ++ Lib.strCells s) w' ∧ Below B w w' ∧ KeepI w w') := by
  obtain ⟨i0, hi, hz0, hz1, hz2⟩ := info_parts info_byte
  go_enter Tryz.func32, Tryz.ntmps32
  go_wp2_with fail
  refine (copy_check B b bs _ h).mono ?_
  rintro e w1 ⟨rfl, h1, hb1, hk1⟩
  obtain ⟨hB, v, hbk, hown, hne⟩ := h1
  have c0 : w1.cell? ⟨b, 0, none⟩ = some (.pointer (some ⟨b, 0, none⟩)) := by rw [Lib.cell_of_heap hbk]; rfl
  have c1 : w1.cell? ⟨b, 1, none⟩ = some v := by rw [Lib.cell_of_heap hbk]; rfl
  go_wp2_with (at_builtin; refine Lib.wpList_append_own_string _ rfl _ _ 64 9 rfl B 5 i0 Tryz.underlying64 Tryz.underlying9 hi hz0 hz1 hz2 _ _ _ rfl hown s rfl ?c3 ?c4 ?c5 ?_)
  case c3 => unfold maxLen; omega
  case c4 => omega
  case c5 => have := hb1.size; omega
  intro v' w2 hown' hgrow _
  have hlt : b < w1.heap.size := by
    rcases Nat.lt_or_ge b w1.heap.size with h' | h'
    · exact h'
    · simp [Array.getElem?_eq_none h'] at hbk
  have hb2 : w2.heap[b]? = some (.cells #[.pointer (some ⟨b, 0, none⟩), v] 66 (0, 0)) := by
    rw [hgrow.block b hlt (fun e => hne e.symm)]
    exact hbk
  have d0 : w2.cell? ⟨b, 0, none⟩ = some (.pointer (some ⟨b, 0, none⟩)) := by rw [Lib.cell_of_heap hb2]; rfl
  have d1 : w2.cell? ⟨b, 1, none⟩ = some v := by rw [Lib.cell_of_heap hb2]; rfl
  have f1 : w2.frozen? ⟨b, 1, none⟩ = false := Lib.frozen_of_heap hb2 1
  obtain ⟨ao, n', cap, rfl⟩ : ∃ ao n' cap, v' = .slice ao n' cap := by
    rcases hown'.2 with ⟨hv, _⟩ | ⟨g, cap, cur, hv, _⟩
    · exact ⟨_, _, _, hv⟩
    · exact ⟨_, _, _, hv⟩
  go_wp2
  go_ret2
  refine ⟨rfl, ?_, ?_, ?_⟩
  · exact Lib.BuilderAt.put (T := 66) (e := 5) hB hb2 (bs' := bs ++ Lib.strCells s) (by simpa [Lib.strCells_length] using hown') (by decide)
  · exact (hb1.grown hgrow (by have := hb1.size; omega) (fun k hk => (hown.lt k hk).1)).setCell (p := ⟨b, 1, none⟩) hB _
  · refine (hk1.grown hgrow ?_).set_b hb2 1 _
    intro g cs hm e
    exact own_ne_mem hown hm (by decide) e.symm

/-! A builder that holds bytes. -/
/-- The builder in block b, of the call's own, holds the bytes l. -/
def HoldsB (B b : Nat) (l : List UInt8) (w : World) : Prop := Lib.IsBuilder 66 5 B b (Lib.byteCells l) w ∧ B ≤ w.heap.size
theorem cells_len (l : List UInt8) : (Lib.byteCells l).length = l.length := by unfold Lib.byteCells; simp
theorem HoldsB.write {B b : Nat} {l : List UInt8} {w : World} (h : HoldsB B b l w) (m : List UInt8) (hl : l.length + m.length ≤ 100000000) :
    Calls Tryz.prog 32 #[.pointer (some ⟨b, 0, none⟩), .string (mk m)] w fun e w' => (∃ n : Int, e = .returned (.tuple #[.int .i64 n, .nilIface])) ∧ HoldsB B b (l ++ m) w' ∧ Below B w w' ∧ KeepI w w' := by
  refine (write_string B b (Lib.byteCells l) (mk m) w h.1 (by rw [cells_len, mk_len]; omega) h.2).mono ?_
  rintro e w' ⟨rfl, h1, h2, h3⟩
  refine ⟨⟨_, rfl⟩, ⟨.inr ?_, Nat.le_trans h.2 h2.size⟩, h2, h3⟩
  have e1 : Lib.byteCells (l ++ m) = Lib.byteCells l ++ Lib.strCells (mk m) := by
    unfold Lib.byteCells Lib.strCells
    rw [List.map_append, show (mk m).data.toList = m from bts_mk m]
  rw [e1]
  exact h1
theorem HoldsB.text {B b : Nat} {l : List UInt8} {w : World} (h : HoldsB B b l w) : Calls Tryz.prog 34 #[.pointer (some ⟨b, 0, none⟩)] w fun e w' => e = .returned (.string (mk l)) ∧ Below B w w' := Tryz.Builder_String_any B b l w h.1 h.2
theorem HoldsB.fresh (w : World) : HoldsB w.heap.size w.heap.size [] (w.alloc (.cells #[.pointer none, .slice none 0 0] 66)) := by
  refine ⟨.inl ⟨Nat.le_refl _, .slice none 0 0, BlkW.heap_alloc_new w _, World.ownsRow_nil _ _ _ _, by simp [Value.ownBlock]⟩, by rw [size_new]; omega⟩
theorem at_old {B b : Nat} {p : Value} {bs : List Value} {w w' : World} (h : Lib.BuilderAt 66 5 B b p bs w) (k : Old w w') : Lib.BuilderAt 66 5 B b p bs w' := by
  obtain ⟨hB, v, hbk, hown, hne⟩ := h
  exact ⟨hB, v, (k.2 b (lt_of_some hbk)).trans hbk, own_old hown k, hne⟩
theorem HoldsB.old {B b : Nat} {l : List UInt8} {w w' : World} (h : HoldsB B b l w) (k : Old w w') : HoldsB B b l w' :=
  ⟨h.1.elim (fun x => .inl (at_old x k)) (fun x => .inr (at_old x k)), Nat.le_trans h.2 k.1⟩
theorem HoldsB.alloc {B b : Nat} {l : List UInt8} {w : World} (h : HoldsB B b l w) (o : Obj) : HoldsB B b l (w.alloc o) := h.old ((Old.refl w).alloc o)
theorem HoldsB.drewN {B b : Nat} {l : List UInt8} {w : World} (h : HoldsB B b l w) (n : Nat) : HoldsB B b l (w.drewN n) := h
theorem HoldsB.below {B b : Nat} {l : List UInt8} {w w' : World} (h : HoldsB B b l w) (k : Below w.heap.size w w') : HoldsB B b l w' := h.old (.of_below k)
end Go.Proofs.YtcplhochgngedaaGreatDoor.Bld
