/-
  What a region holds while it runs calls over an instruction that lies in a block; and an instruction that came in as an argument.
-/
import Derived.Test.YteccmhkjbidkpaaDoorIsaL
import Derived.Test.YteccmhkjbidkpaaDoorRefB
import Derived.Test.YteccmhkjbidkpaaDoorRefF
namespace Go.Proofs.YteccmhkjbidkpaaDoor.IsaH
open Go.ChangeShapes Go.WideShapes Go.ChangeAt Go.RowKit
open PlainT IsaE IsaS BlkW IsaA IsaB IsaF IsaP IsaQ IsaX IsaL
set_option linter.unusedVariables false

section
variable {H : Type} {enc : TypeId × Value → H} {P : Program} {W : World} {base : Nat} {sp : Nat → Bool} {held : Bool}
theorem open_instr {t : TypeId} {fs : Array Field} {b0 : Nat} {v : Value} {d : DataW H} {ps : List MemPlace} (ht : P.underlying t = some (.struct fs)) (hn : fs.size = 5) (hct : P.cellsOf t = 5)
    (hfs : ∀ j, j < 5 → ∃ f, fs[j]? = some f ∧ f.offset = j ∧ P.underlying f.type = some (.int .i64) ∧ P.cellsOf f.type = 1)
    (hval : Value.okWide P W .any b0 t v) (hd : DataW.Trod enc P W base sp held t v d ps) :
    ∃ op a b c i, v = ins op a b c i ∧ InInt op ∧ InInt a ∧ InInt b ∧ InInt c ∧ InInt i := by
  obtain ⟨cs, rfl, hs⟩ := okWide_struct ht hval
  obtain ⟨fuel, hf⟩ := hd
  obtain ⟨xs, n, rfl, hx, hl, hxl, hg⟩ := DataW.trod_struct ht hf
  rw [hct] at hs hl
  have key : ∀ j, j < 5 → ∃ z, cs[j]? = some (.int .i64 z) ∧ InInt z := by
    intro j hj
    obtain ⟨f, hf1, ho, hu, hc⟩ := hfs j hj
    have h1 := hg j f hf1
    have hxj : j < xs.length := by omega
    rw [List.getElem?_eq_getElem hxj, ho, hc] at h1
    obtain ⟨z, hz, _, hw⟩ := DataW.trod_int hu h1
    refine ⟨z, ?_, bounds_i64 hw⟩
    have h2 := congrArg (fun l => l[0]?) hz
    simp only [List.getElem?_take, List.getElem?_drop, List.getElem?_cons_zero] at h2
    simpa [Value.cells] using h2
  obtain ⟨z0, e0, i0⟩ := key 0 (by omega)
  obtain ⟨z1, e1, i1⟩ := key 1 (by omega)
  obtain ⟨z2, e2, i2⟩ := key 2 (by omega)
  obtain ⟨z3, e3, i3⟩ := key 3 (by omega)
  obtain ⟨z4, e4, i4⟩ := key 4 (by omega)
  refine ⟨z0, z1, z2, z3, z4, ?_, i0, i1, i2, i3, i4⟩
  congr 1
  apply Array.ext_getElem?
  intro j
  by_cases hj : j < 5
  · have : j = 0 ∨ j = 1 ∨ j = 2 ∨ j = 3 ∨ j = 4 := by omega
    rcases this with rfl | rfl | rfl | rfl | rfl
    · rw [e0]; rfl
    · rw [e1]; rfl
    · rw [e2]; rfl
    · rw [e3]; rfl
    · rw [e4]; rfl
  · rw [Array.getElem?_eq_none (by omega), Array.getElem?_eq_none (by simpa using hj)]
end
set_option maxRecDepth 100000 in
theorem open_ins {H : Type} {enc : TypeId × Value → H} {W : World} {base b0 : Nat} {sp : Nat → Bool} {held : Bool} {v : Value} {d : DataW H} {ps : List MemPlace}
    (hval : Value.okWide Tryd.prog W .any b0 23 v) (hd : DataW.Trod enc Tryd.prog W base sp held 23 v d ps) :
    ∃ op a b c i, v = ins op a b c i ∧ InInt op ∧ InInt a ∧ InInt b ∧ InInt c ∧ InInt i :=
  open_instr Tryd.underlying23 rfl (by kernel_rfl) (by
    intro j hj
    have : j = 0 ∨ j = 1 ∨ j = 2 ∨ j = 3 ∨ j = 4 := by omega
    rcases this with rfl | rfl | rfl | rfl | rfl <;> exact ⟨_, rfl, rfl, by kernel_rfl, by kernel_rfl⟩) hval hd

/-! ### What is held. -/
def HH (w0 : World) (g : Nat) (op a b c i : Int) (w : World) : Prop := Mem w g 23 (boxed op a b c i) ∧ Env w ∧ Below w0.heap.size w0 w
abbrev Held (w0 : World) (g : Nat) (op a b c i : Int) (w : World) : Prop :=
  w.cell? ⟨g, 0, none⟩ = some (.int .i64 op) ∧ w.cell? ⟨g, 1, none⟩ = some (.int .i64 a) ∧ w.cell? ⟨g, 2, none⟩ = some (.int .i64 b) ∧ w.cell? ⟨g, 3, none⟩ = some (.int .i64 c) ∧ w.cell? ⟨g, 4, none⟩ = some (.int .i64 i) ∧ HH w0 g op a b c i w
theorem held_of {w0 : World} {g : Nat} {op a b c i : Int} {w : World} (h : HH w0 g op a b c i w) : Held w0 g op a b c i w := by
  obtain ⟨z0, z1, z2, z3, z4⟩ := boxed_cells h.1
  exact ⟨z0, z1, z2, z3, z4, h⟩
theorem held_drew {w0 : World} {g : Nat} {op a b c i : Int} {w : World} (h : HH w0 g op a b c i w) : Held w0 g op a b c i w.drew :=
  held_of ⟨h.1, h.2.1.drewN 1, h.2.2.trans ((drew_below w).mono h.2.2.size)⟩
theorem held_keep {w0 : World} {g : Nat} {op a b c i : Int} {w w' : World} (h : Held w0 g op a b c i w) (hb : Below w.heap.size w w') : Held w0 g op a b c i w' := by
  obtain ⟨_, _, _, _, _, h1, h2, h3⟩ := h
  exact held_of ⟨h1.below hb h1.lt, h2.below hb, below_trans2 h3 hb⟩
theorem held_env {w0 : World} {g : Nat} {op a b c i : Int} {w : World} (h : Held w0 g op a b c i w) : Env w := h.2.2.2.2.2.2.1
theorem held_below {w0 : World} {g : Nat} {op a b c i : Int} {w : World} (h : Held w0 g op a b c i w) : Below w0.heap.size w0 w := h.2.2.2.2.2.2.2
theorem held_new (w : World) (h : Env w) (op a b c i : Int) : HH w w.heap.size op a b c i (w.alloc (.cells (boxed op a b c i) 23)) :=
  ⟨Mem.new _ _ _, h.alloc _, below_new _ _⟩
end Go.Proofs.YteccmhkjbidkpaaDoor.IsaH
