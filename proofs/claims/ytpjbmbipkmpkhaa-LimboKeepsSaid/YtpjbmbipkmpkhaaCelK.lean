/-
  Each operation of Image's region; the region whole; the contract of Image.
-/
import Derived.Test.YtpjbmbipkmpkhaaCelJ
import Derived.Laws.Rows
namespace Go.Proofs.Ytpjbmbipkmpkhaa.CelK
open Go.ChangeShapes Go.WideShapes Go.ChangeAt Go.RowKit Go.MuLone
open PlainT BlkW CelS CelM CelP CelV CelN CelO CelI CelJ
open CelR (any_inv op_value op_skip evc)
set_option linter.unusedVariables false
set_option maxRecDepth 100000
set_option maxHeartbeats 4000000

theorem run_storeS {a : Addr} {A : Option Addr} {n c : Nat} {u : Value} {w : World} (h : w.cell? a = some u) (hf : w.frozen? a = false) : (Instr.storeAt TR (.pointer (some a)) (.slice A n c)).run Try.prog w = .ok () (w.setCell a (.slice A n c)) := by simp [go_sem, h, hf]
theorem run_storeZ {b : Nat} {w : World} {v0 v1 v2 v3 v4 v5 v6 v7 : Value} (h : Mem w b 39 #[v0, v1, v2, v3, v4, v5, v6, v7]) : ∃ w1, (Instr.storeAt 39 (.pointer (some ⟨b, 0, none⟩)) (.agg #[.slice none 0 0, .slice none 0 0, .int .u64 0, .int .u64 0, .int .u64 0, .slice none 0 0, .slice none 0 0, .slice none 0 0])).run Try.prog w = .ok () w1 ∧ Mem w1 b 39 #[.slice none 0 0, .slice none 0 0, .int .u64 0, .int .u64 0, .int .u64 0, .slice none 0 0, .slice none 0 0, .slice none 0 0] ∧ w1 = (((((((w.setCell ⟨b, 0, none⟩ (.slice none 0 0)).setCell ⟨b, 1, none⟩ (.slice none 0 0)).setCell ⟨b, 2, none⟩ (.int .u64 0)).setCell ⟨b, 3, none⟩ (.int .u64 0)).setCell ⟨b, 4, none⟩ (.int .u64 0)).setCell ⟨b, 5, none⟩ (.slice none 0 0)).setCell ⟨b, 6, none⟩ (.slice none 0 0)).setCell ⟨b, 7, none⟩ (.slice none 0 0) := by
  have c0 := h.cell 0
  have c1 := h.cell 1
  have c2 := h.cell 2
  have c3 := h.cell 3
  have c4 := h.cell 4
  have c5 := h.cell 5
  have c6 := h.cell 6
  have c7 := h.cell 7
  have cf := h.frozen
  simp at c0 c1 c2 c3 c4 c5 c6 c7
  exact ⟨_, by simp [go_sem, c0, c1, c2, c3, c4, c5, c6, c7, cf], (((((((h.set_ 0 _).set_ 1 _).set_ 2 _).set_ 3 _).set_ 4 _).set_ 5 _).set_ 6 _).set_ 7 _, rfl⟩
theorem s0 {Q : Exit → Act → World → Prop} {K : Kon} {L : Nat → Bool} {a : Act} {w : World} {G : Nat → Value} (h : Inv K L a w G) (hh : K.hi ≤ K.w0.heap.size) (h3 : K.A 3 = [K.c]) (h4 : K.A 4 = [K.t]) (h5 : K.A 5 = [K.s]) (hp : ∀ j ∈ Pd 0, L j = true) (hu : L 0 = false) (X : Act → World → Prop) (hX : ∀ a' w', (∃ G, Inv K (CelR.mark L 0) a' w' G) → X a' w') : wpOp Try.prog ops Q 0 X a w := by
  obtain ⟨t, p, f, ho⟩ := o0
  exact op_value (v := val K G 0) ho rfl (by simp only [execOp, h.f0]; rfl) (hX _ _ ⟨G, h.pure (i := 0) (d := 13) (by decide) rfl (by unfold isC; omega) ⟨by decide, by decide, by decide, by decide, by decide, by decide, by decide, by decide⟩ (hp_of hp)⟩)
theorem s1 {Q : Exit → Act → World → Prop} {K : Kon} {L : Nat → Bool} {a : Act} {w : World} {G : Nat → Value} (h : Inv K L a w G) (hh : K.hi ≤ K.w0.heap.size) (h3 : K.A 3 = [K.c]) (h4 : K.A 4 = [K.t]) (h5 : K.A 5 = [K.s]) (hp : ∀ j ∈ Pd 1, L j = true) (hu : L 1 = false) (X : Act → World → Prop) (hX : ∀ a' w', (∃ G, Inv K (CelR.mark L 1) a' w' G) → X a' w') : wpOp Try.prog ops Q 1 X a w := by
  obtain ⟨t, p, f, ho⟩ := o1
  have hv : a.eval (.tmp 13) = .pointer (some ⟨K.b, 0, none⟩) := h.e 0 (by decide) (hp 0 (by decide)) 13 rfl
  exact op_value (v := val K G 1) ho rfl (by simp [execOp, hv]; rfl) (hX _ _ ⟨G, h.pure (i := 1) (d := 14) (by decide) rfl (by unfold isC; omega) ⟨by decide, by decide, by decide, by decide, by decide, by decide, by decide, by decide⟩ (hp_of hp)⟩)
theorem s2 {Q : Exit → Act → World → Prop} {K : Kon} {L : Nat → Bool} {a : Act} {w : World} {G : Nat → Value} (h : Inv K L a w G) (hh : K.hi ≤ K.w0.heap.size) (h3 : K.A 3 = [K.c]) (h4 : K.A 4 = [K.t]) (h5 : K.A 5 = [K.s]) (hp : ∀ j ∈ Pd 2, L j = true) (hu : L 2 = false) (X : Act → World → Prop) (hX : ∀ a' w', (∃ G, Inv K (CelR.mark L 2) a' w' G) → X a' w') : wpOp Try.prog ops Q 2 X a w := by
  obtain ⟨t, p, f, ho⟩ := o2
  have hv : a.eval (.tmp 14) = .pointer (some ⟨K.b, 0, none⟩) := h.e 1 (by decide) (hp 1 (by decide)) 14 rfl
  exact op_value (v := val K G 2) ho rfl (by simp [execOp, hv, run_field K.b 0]; rfl) (hX _ _ ⟨G, h.pure (i := 2) (d := 15) (by decide) rfl (by unfold isC; omega) ⟨by decide, by decide, by decide, by decide, by decide, by decide, by decide, by decide⟩ (hp_of hp)⟩)
theorem s3 {Q : Exit → Act → World → Prop} {K : Kon} {L : Nat → Bool} {a : Act} {w : World} {G : Nat → Value} (h : Inv K L a w G) (hh : K.hi ≤ K.w0.heap.size) (h3 : K.A 3 = [K.c]) (h4 : K.A 4 = [K.t]) (h5 : K.A 5 = [K.s]) (hp : ∀ j ∈ Pd 3, L j = true) (hu : L 3 = false) (X : Act → World → Prop) (hX : ∀ a' w', (∃ G, Inv K (CelR.mark L 3) a' w' G) → X a' w') : wpOp Try.prog ops Q 3 X a w := by
  obtain ⟨t, p, f, ho⟩ := o3
  have hv : a.eval (.tmp 15) = .pointer (some ⟨K.b, 2, none⟩) := h.e 2 (by decide) (hp 2 (by decide)) 15 rfl
  have hc : w.cell? ⟨K.b, 2, none⟩ = some (.map (some K.bm)) := h.si.held.box.cell 2
  exact op_value (v := val K G 3) ho rfl (by simp [execOp, hv, run_loadM hc]; rfl) (hX _ _ ⟨G, h.pure (i := 3) (d := 16) (by decide) rfl (by unfold isC; omega) ⟨by decide, by decide, by decide, by decide, by decide, by decide, by decide, by decide⟩ (hp_of hp)⟩)
theorem s4 {Q : Exit → Act → World → Prop} {K : Kon} {L : Nat → Bool} {a : Act} {w : World} {G : Nat → Value} (h : Inv K L a w G) (hh : K.hi ≤ K.w0.heap.size) (h3 : K.A 3 = [K.c]) (h4 : K.A 4 = [K.t]) (h5 : K.A 5 = [K.s]) (hp : ∀ j ∈ Pd 4, L j = true) (hu : L 4 = false) (X : Act → World → Prop) (hX : ∀ a' w', (∃ G, Inv K (CelR.mark L 4) a' w' G) → X a' w') : wpOp Try.prog ops Q 4 X a w := by
  obtain ⟨t, p, f, ho⟩ := o4
  have hv : a.eval (.tmp 16) = .map (some K.bm) := h.e 3 (by decide) (hp 3 (by decide)) 16 rfl
  have hl := h.si.held.look 1
  rw [if_pos (by decide)] at hl
  exact op_value (v := val K G 4) ho rfl (by simp only [execOp, hv, evc]; simp [hl]; rfl) (hX _ _ ⟨G, h.pure (i := 4) (d := 17) (by decide) rfl (by unfold isC; omega) ⟨by decide, by decide, by decide, by decide, by decide, by decide, by decide, by decide⟩ (hp_of hp)⟩)
theorem s5 {Q : Exit → Act → World → Prop} {K : Kon} {L : Nat → Bool} {a : Act} {w : World} {G : Nat → Value} (h : Inv K L a w G) (hh : K.hi ≤ K.w0.heap.size) (h3 : K.A 3 = [K.c]) (h4 : K.A 4 = [K.t]) (h5 : K.A 5 = [K.s]) (hp : ∀ j ∈ Pd 5, L j = true) (hu : L 5 = false) (X : Act → World → Prop) (hX : ∀ a' w', (∃ G, Inv K (CelR.mark L 5) a' w' G) → X a' w') : wpOp Try.prog ops Q 5 X a w := by
  obtain ⟨t, p, f, ho⟩ := o5
  have hv : a.eval (.tmp 17) = .slice (some ⟨K.g 1, 0, none⟩) (K.A 1).length (K.A 1).length := h.e 4 (by decide) (hp 4 (by decide)) 17 rfl
  have hf : a.eval (.func 79) = .func (.func 79) #[] #[] := rfl
  have hin := run_callFunc_enter (P := Try.prog) Try.func79 (by kernel_rfl) rfl #[.slice (some ⟨K.g 1, 0, none⟩) (K.A 1).length (K.A 1).length] w
  refine op_call ho rfl (by simp [execOp, resolve, Deferred.ofValue, invoke, hv, hf, hin]) (k_clone w _ (K.A 1) (row_src (h.si.held.row 1 (by decide))) (h.si.held.len 1)) ?_
  rintro e w' ⟨A', c', rfl, ho', hb'⟩
  exact ⟨_, rfl, hX _ _ ⟨_, h.copy (i := 5) (d := 18) (by decide) rfl (by unfold isC; omega) hu (.slice A' (K.A 1).length c') hb' ho'⟩⟩
theorem s6 {Q : Exit → Act → World → Prop} {K : Kon} {L : Nat → Bool} {a : Act} {w : World} {G : Nat → Value} (h : Inv K L a w G) (hh : K.hi ≤ K.w0.heap.size) (h3 : K.A 3 = [K.c]) (h4 : K.A 4 = [K.t]) (h5 : K.A 5 = [K.s]) (hp : ∀ j ∈ Pd 6, L j = true) (hu : L 6 = false) (X : Act → World → Prop) (hX : ∀ a' w', (∃ G, Inv K (CelR.mark L 6) a' w' G) → X a' w') : wpOp Try.prog ops Q 6 X a w := by
  obtain ⟨t, p, f, ho⟩ := o6
  exact op_value (v := val K G 6) ho rfl (by simp only [execOp, h.f0]; rfl) (hX _ _ ⟨G, h.pure (i := 6) (d := 19) (by decide) rfl (by unfold isC; omega) ⟨by decide, by decide, by decide, by decide, by decide, by decide, by decide, by decide⟩ (hp_of hp)⟩)
theorem s7 {Q : Exit → Act → World → Prop} {K : Kon} {L : Nat → Bool} {a : Act} {w : World} {G : Nat → Value} (h : Inv K L a w G) (hh : K.hi ≤ K.w0.heap.size) (h3 : K.A 3 = [K.c]) (h4 : K.A 4 = [K.t]) (h5 : K.A 5 = [K.s]) (hp : ∀ j ∈ Pd 7, L j = true) (hu : L 7 = false) (X : Act → World → Prop) (hX : ∀ a' w', (∃ G, Inv K (CelR.mark L 7) a' w' G) → X a' w') : wpOp Try.prog ops Q 7 X a w := by
  obtain ⟨t, p, f, ho⟩ := o7
  have hv : a.eval (.tmp 19) = .pointer (some ⟨K.b, 0, none⟩) := h.e 6 (by decide) (hp 6 (by decide)) 19 rfl
  exact op_value (v := val K G 7) ho rfl (by simp [execOp, hv]; rfl) (hX _ _ ⟨G, h.pure (i := 7) (d := 20) (by decide) rfl (by unfold isC; omega) ⟨by decide, by decide, by decide, by decide, by decide, by decide, by decide, by decide⟩ (hp_of hp)⟩)
theorem s8 {Q : Exit → Act → World → Prop} {K : Kon} {L : Nat → Bool} {a : Act} {w : World} {G : Nat → Value} (h : Inv K L a w G) (hh : K.hi ≤ K.w0.heap.size) (h3 : K.A 3 = [K.c]) (h4 : K.A 4 = [K.t]) (h5 : K.A 5 = [K.s]) (hp : ∀ j ∈ Pd 8, L j = true) (hu : L 8 = false) (X : Act → World → Prop) (hX : ∀ a' w', (∃ G, Inv K (CelR.mark L 8) a' w' G) → X a' w') : wpOp Try.prog ops Q 8 X a w := by
  obtain ⟨t, p, f, ho⟩ := o8
  have hv : a.eval (.tmp 20) = .pointer (some ⟨K.b, 0, none⟩) := h.e 7 (by decide) (hp 7 (by decide)) 20 rfl
  exact op_value (v := val K G 8) ho rfl (by simp [execOp, hv, run_field K.b 0]; rfl) (hX _ _ ⟨G, h.pure (i := 8) (d := 21) (by decide) rfl (by unfold isC; omega) ⟨by decide, by decide, by decide, by decide, by decide, by decide, by decide, by decide⟩ (hp_of hp)⟩)
theorem s9 {Q : Exit → Act → World → Prop} {K : Kon} {L : Nat → Bool} {a : Act} {w : World} {G : Nat → Value} (h : Inv K L a w G) (hh : K.hi ≤ K.w0.heap.size) (h3 : K.A 3 = [K.c]) (h4 : K.A 4 = [K.t]) (h5 : K.A 5 = [K.s]) (hp : ∀ j ∈ Pd 9, L j = true) (hu : L 9 = false) (X : Act → World → Prop) (hX : ∀ a' w', (∃ G, Inv K (CelR.mark L 9) a' w' G) → X a' w') : wpOp Try.prog ops Q 9 X a w := by
  obtain ⟨t, p, f, ho⟩ := o9
  have hv : a.eval (.tmp 21) = .pointer (some ⟨K.b, 2, none⟩) := h.e 8 (by decide) (hp 8 (by decide)) 21 rfl
  have hc : w.cell? ⟨K.b, 2, none⟩ = some (.map (some K.bm)) := h.si.held.box.cell 2
  exact op_value (v := val K G 9) ho rfl (by simp [execOp, hv, run_loadM hc]; rfl) (hX _ _ ⟨G, h.pure (i := 9) (d := 22) (by decide) rfl (by unfold isC; omega) ⟨by decide, by decide, by decide, by decide, by decide, by decide, by decide, by decide⟩ (hp_of hp)⟩)
theorem s10 {Q : Exit → Act → World → Prop} {K : Kon} {L : Nat → Bool} {a : Act} {w : World} {G : Nat → Value} (h : Inv K L a w G) (hh : K.hi ≤ K.w0.heap.size) (h3 : K.A 3 = [K.c]) (h4 : K.A 4 = [K.t]) (h5 : K.A 5 = [K.s]) (hp : ∀ j ∈ Pd 10, L j = true) (hu : L 10 = false) (X : Act → World → Prop) (hX : ∀ a' w', (∃ G, Inv K (CelR.mark L 10) a' w' G) → X a' w') : wpOp Try.prog ops Q 10 X a w := by
  obtain ⟨t, p, f, ho⟩ := o10
  have hv : a.eval (.tmp 22) = .map (some K.bm) := h.e 9 (by decide) (hp 9 (by decide)) 22 rfl
  have hl := h.si.held.look 2
  rw [if_pos (by decide)] at hl
  exact op_value (v := val K G 10) ho rfl (by simp only [execOp, hv, evc]; simp [hl]; rfl) (hX _ _ ⟨G, h.pure (i := 10) (d := 23) (by decide) rfl (by unfold isC; omega) ⟨by decide, by decide, by decide, by decide, by decide, by decide, by decide, by decide⟩ (hp_of hp)⟩)
theorem s11 {Q : Exit → Act → World → Prop} {K : Kon} {L : Nat → Bool} {a : Act} {w : World} {G : Nat → Value} (h : Inv K L a w G) (hh : K.hi ≤ K.w0.heap.size) (h3 : K.A 3 = [K.c]) (h4 : K.A 4 = [K.t]) (h5 : K.A 5 = [K.s]) (hp : ∀ j ∈ Pd 11, L j = true) (hu : L 11 = false) (X : Act → World → Prop) (hX : ∀ a' w', (∃ G, Inv K (CelR.mark L 11) a' w' G) → X a' w') : wpOp Try.prog ops Q 11 X a w := by
  obtain ⟨t, p, f, ho⟩ := o11
  have hv : a.eval (.tmp 23) = .slice (some ⟨K.g 2, 0, none⟩) (K.A 2).length (K.A 2).length := h.e 10 (by decide) (hp 10 (by decide)) 23 rfl
  have hf : a.eval (.func 79) = .func (.func 79) #[] #[] := rfl
  have hin := run_callFunc_enter (P := Try.prog) Try.func79 (by kernel_rfl) rfl #[.slice (some ⟨K.g 2, 0, none⟩) (K.A 2).length (K.A 2).length] w
  refine op_call ho rfl (by simp [execOp, resolve, Deferred.ofValue, invoke, hv, hf, hin]) (k_clone w _ (K.A 2) (row_src (h.si.held.row 2 (by decide))) (h.si.held.len 2)) ?_
  rintro e w' ⟨A', c', rfl, ho', hb'⟩
  exact ⟨_, rfl, hX _ _ ⟨_, h.copy (i := 11) (d := 24) (by decide) rfl (by unfold isC; omega) hu (.slice A' (K.A 2).length c') hb' ho'⟩⟩
theorem s12 {Q : Exit → Act → World → Prop} {K : Kon} {L : Nat → Bool} {a : Act} {w : World} {G : Nat → Value} (h : Inv K L a w G) (hh : K.hi ≤ K.w0.heap.size) (h3 : K.A 3 = [K.c]) (h4 : K.A 4 = [K.t]) (h5 : K.A 5 = [K.s]) (hp : ∀ j ∈ Pd 12, L j = true) (hu : L 12 = false) (X : Act → World → Prop) (hX : ∀ a' w', (∃ G, Inv K (CelR.mark L 12) a' w' G) → X a' w') : wpOp Try.prog ops Q 12 X a w := by
  obtain ⟨t, p, f, ho⟩ := o12
  exact op_value (v := val K G 12) ho rfl (by simp only [execOp, h.f0]; rfl) (hX _ _ ⟨G, h.pure (i := 12) (d := 25) (by decide) rfl (by unfold isC; omega) ⟨by decide, by decide, by decide, by decide, by decide, by decide, by decide, by decide⟩ (hp_of hp)⟩)
theorem s13 {Q : Exit → Act → World → Prop} {K : Kon} {L : Nat → Bool} {a : Act} {w : World} {G : Nat → Value} (h : Inv K L a w G) (hh : K.hi ≤ K.w0.heap.size) (h3 : K.A 3 = [K.c]) (h4 : K.A 4 = [K.t]) (h5 : K.A 5 = [K.s]) (hp : ∀ j ∈ Pd 13, L j = true) (hu : L 13 = false) (X : Act → World → Prop) (hX : ∀ a' w', (∃ G, Inv K (CelR.mark L 13) a' w' G) → X a' w') : wpOp Try.prog ops Q 13 X a w := by
  obtain ⟨t, p, f, ho⟩ := o13
  have hv : a.eval (.tmp 25) = .pointer (some ⟨K.b, 0, none⟩) := h.e 12 (by decide) (hp 12 (by decide)) 25 rfl
  exact op_value (v := val K G 13) ho rfl (by simp [execOp, hv]; rfl) (hX _ _ ⟨G, h.pure (i := 13) (d := 26) (by decide) rfl (by unfold isC; omega) ⟨by decide, by decide, by decide, by decide, by decide, by decide, by decide, by decide⟩ (hp_of hp)⟩)
theorem s14 {Q : Exit → Act → World → Prop} {K : Kon} {L : Nat → Bool} {a : Act} {w : World} {G : Nat → Value} (h : Inv K L a w G) (hh : K.hi ≤ K.w0.heap.size) (h3 : K.A 3 = [K.c]) (h4 : K.A 4 = [K.t]) (h5 : K.A 5 = [K.s]) (hp : ∀ j ∈ Pd 14, L j = true) (hu : L 14 = false) (X : Act → World → Prop) (hX : ∀ a' w', (∃ G, Inv K (CelR.mark L 14) a' w' G) → X a' w') : wpOp Try.prog ops Q 14 X a w := by
  obtain ⟨t, p, f, ho⟩ := o14
  have hv : a.eval (.tmp 26) = .pointer (some ⟨K.b, 0, none⟩) := h.e 13 (by decide) (hp 13 (by decide)) 26 rfl
  exact op_value (v := val K G 14) ho rfl (by simp [execOp, hv, run_field K.b 0]; rfl) (hX _ _ ⟨G, h.pure (i := 14) (d := 27) (by decide) rfl (by unfold isC; omega) ⟨by decide, by decide, by decide, by decide, by decide, by decide, by decide, by decide⟩ (hp_of hp)⟩)
theorem s15 {Q : Exit → Act → World → Prop} {K : Kon} {L : Nat → Bool} {a : Act} {w : World} {G : Nat → Value} (h : Inv K L a w G) (hh : K.hi ≤ K.w0.heap.size) (h3 : K.A 3 = [K.c]) (h4 : K.A 4 = [K.t]) (h5 : K.A 5 = [K.s]) (hp : ∀ j ∈ Pd 15, L j = true) (hu : L 15 = false) (X : Act → World → Prop) (hX : ∀ a' w', (∃ G, Inv K (CelR.mark L 15) a' w' G) → X a' w') : wpOp Try.prog ops Q 15 X a w := by
  obtain ⟨t, p, f, ho⟩ := o15
  have hv : a.eval (.tmp 27) = .pointer (some ⟨K.b, 2, none⟩) := h.e 14 (by decide) (hp 14 (by decide)) 27 rfl
  have hc : w.cell? ⟨K.b, 2, none⟩ = some (.map (some K.bm)) := h.si.held.box.cell 2
  exact op_value (v := val K G 15) ho rfl (by simp [execOp, hv, run_loadM hc]; rfl) (hX _ _ ⟨G, h.pure (i := 15) (d := 28) (by decide) rfl (by unfold isC; omega) ⟨by decide, by decide, by decide, by decide, by decide, by decide, by decide, by decide⟩ (hp_of hp)⟩)
theorem s16 {Q : Exit → Act → World → Prop} {K : Kon} {L : Nat → Bool} {a : Act} {w : World} {G : Nat → Value} (h : Inv K L a w G) (hh : K.hi ≤ K.w0.heap.size) (h3 : K.A 3 = [K.c]) (h4 : K.A 4 = [K.t]) (h5 : K.A 5 = [K.s]) (hp : ∀ j ∈ Pd 16, L j = true) (hu : L 16 = false) (X : Act → World → Prop) (hX : ∀ a' w', (∃ G, Inv K (CelR.mark L 16) a' w' G) → X a' w') : wpOp Try.prog ops Q 16 X a w := by
  obtain ⟨t, p, f, ho⟩ := o16
  have hv : a.eval (.tmp 28) = .map (some K.bm) := h.e 15 (by decide) (hp 15 (by decide)) 28 rfl
  have hl := h.si.held.look 3
  rw [if_pos (by decide)] at hl
  rw [h3] at hl
  exact op_value (v := val K G 16) ho rfl (by simp only [execOp, hv, evc]; simp [hl]; rfl) (hX _ _ ⟨G, h.pure (i := 16) (d := 29) (by decide) rfl (by unfold isC; omega) ⟨by decide, by decide, by decide, by decide, by decide, by decide, by decide, by decide⟩ (hp_of hp)⟩)
theorem s17 {Q : Exit → Act → World → Prop} {K : Kon} {L : Nat → Bool} {a : Act} {w : World} {G : Nat → Value} (h : Inv K L a w G) (hh : K.hi ≤ K.w0.heap.size) (h3 : K.A 3 = [K.c]) (h4 : K.A 4 = [K.t]) (h5 : K.A 5 = [K.s]) (hp : ∀ j ∈ Pd 17, L j = true) (hu : L 17 = false) (X : Act → World → Prop) (hX : ∀ a' w', (∃ G, Inv K (CelR.mark L 17) a' w' G) → X a' w') : wpOp Try.prog ops Q 17 X a w := by
  obtain ⟨t, p, f, ho⟩ := o17
  have hv : a.eval (.tmp 29) = .slice (some ⟨K.g 3, 0, none⟩) 1 1 := h.e 16 (by decide) (hp 16 (by decide)) 29 rfl
  exact op_value (v := val K G 17) ho rfl (by simp only [execOp, hv, evc]; simp [run_index _ 1 rfl]; rfl) (hX _ _ ⟨G, h.pure (i := 17) (d := 30) (by decide) rfl (by unfold isC; omega) ⟨by decide, by decide, by decide, by decide, by decide, by decide, by decide, by decide⟩ (hp_of hp)⟩)
theorem s18 {Q : Exit → Act → World → Prop} {K : Kon} {L : Nat → Bool} {a : Act} {w : World} {G : Nat → Value} (h : Inv K L a w G) (hh : K.hi ≤ K.w0.heap.size) (h3 : K.A 3 = [K.c]) (h4 : K.A 4 = [K.t]) (h5 : K.A 5 = [K.s]) (hp : ∀ j ∈ Pd 18, L j = true) (hu : L 18 = false) (X : Act → World → Prop) (hX : ∀ a' w', (∃ G, Inv K (CelR.mark L 18) a' w' G) → X a' w') : wpOp Try.prog ops Q 18 X a w := by
  obtain ⟨t, p, f, ho⟩ := o18
  have hv : a.eval (.tmp 30) = .pointer (some ⟨K.g 3, 0, none⟩) := h.e 17 (by decide) (hp 17 (by decide)) 30 rfl
  have hc := Row.cell (h.si.held.row 3 (by decide)) 0 (by rw [h3]; simp)
  rw [h3] at hc
  have hc' : w.cell? ⟨K.g 3, 0, none⟩ = some (val K G 18) := hc
  exact op_value (v := val K G 18) ho rfl (by simp only [execOp, hv]; simp [run_loadU hc]; rfl) (hX _ _ ⟨G, h.pure (i := 18) (d := 31) (by decide) rfl (by unfold isC; omega) ⟨by decide, by decide, by decide, by decide, by decide, by decide, by decide, by decide⟩ (hp_of hp)⟩)
theorem s19 {Q : Exit → Act → World → Prop} {K : Kon} {L : Nat → Bool} {a : Act} {w : World} {G : Nat → Value} (h : Inv K L a w G) (hh : K.hi ≤ K.w0.heap.size) (h3 : K.A 3 = [K.c]) (h4 : K.A 4 = [K.t]) (h5 : K.A 5 = [K.s]) (hp : ∀ j ∈ Pd 19, L j = true) (hu : L 19 = false) (X : Act → World → Prop) (hX : ∀ a' w', (∃ G, Inv K (CelR.mark L 19) a' w' G) → X a' w') : wpOp Try.prog ops Q 19 X a w := by
  obtain ⟨t, p, f, ho⟩ := o19
  exact op_value (v := val K G 19) ho rfl (by simp only [execOp, h.f0]; rfl) (hX _ _ ⟨G, h.pure (i := 19) (d := 32) (by decide) rfl (by unfold isC; omega) ⟨by decide, by decide, by decide, by decide, by decide, by decide, by decide, by decide⟩ (hp_of hp)⟩)
theorem s20 {Q : Exit → Act → World → Prop} {K : Kon} {L : Nat → Bool} {a : Act} {w : World} {G : Nat → Value} (h : Inv K L a w G) (hh : K.hi ≤ K.w0.heap.size) (h3 : K.A 3 = [K.c]) (h4 : K.A 4 = [K.t]) (h5 : K.A 5 = [K.s]) (hp : ∀ j ∈ Pd 20, L j = true) (hu : L 20 = false) (X : Act → World → Prop) (hX : ∀ a' w', (∃ G, Inv K (CelR.mark L 20) a' w' G) → X a' w') : wpOp Try.prog ops Q 20 X a w := by
  obtain ⟨t, p, f, ho⟩ := o20
  have hv : a.eval (.tmp 32) = .pointer (some ⟨K.b, 0, none⟩) := h.e 19 (by decide) (hp 19 (by decide)) 32 rfl
  exact op_value (v := val K G 20) ho rfl (by simp [execOp, hv]; rfl) (hX _ _ ⟨G, h.pure (i := 20) (d := 33) (by decide) rfl (by unfold isC; omega) ⟨by decide, by decide, by decide, by decide, by decide, by decide, by decide, by decide⟩ (hp_of hp)⟩)
theorem s21 {Q : Exit → Act → World → Prop} {K : Kon} {L : Nat → Bool} {a : Act} {w : World} {G : Nat → Value} (h : Inv K L a w G) (hh : K.hi ≤ K.w0.heap.size) (h3 : K.A 3 = [K.c]) (h4 : K.A 4 = [K.t]) (h5 : K.A 5 = [K.s]) (hp : ∀ j ∈ Pd 21, L j = true) (hu : L 21 = false) (X : Act → World → Prop) (hX : ∀ a' w', (∃ G, Inv K (CelR.mark L 21) a' w' G) → X a' w') : wpOp Try.prog ops Q 21 X a w := by
  obtain ⟨t, p, f, ho⟩ := o21
  have hv : a.eval (.tmp 33) = .pointer (some ⟨K.b, 0, none⟩) := h.e 20 (by decide) (hp 20 (by decide)) 33 rfl
  exact op_value (v := val K G 21) ho rfl (by simp [execOp, hv, run_field K.b 0]; rfl) (hX _ _ ⟨G, h.pure (i := 21) (d := 34) (by decide) rfl (by unfold isC; omega) ⟨by decide, by decide, by decide, by decide, by decide, by decide, by decide, by decide⟩ (hp_of hp)⟩)
theorem s22 {Q : Exit → Act → World → Prop} {K : Kon} {L : Nat → Bool} {a : Act} {w : World} {G : Nat → Value} (h : Inv K L a w G) (hh : K.hi ≤ K.w0.heap.size) (h3 : K.A 3 = [K.c]) (h4 : K.A 4 = [K.t]) (h5 : K.A 5 = [K.s]) (hp : ∀ j ∈ Pd 22, L j = true) (hu : L 22 = false) (X : Act → World → Prop) (hX : ∀ a' w', (∃ G, Inv K (CelR.mark L 22) a' w' G) → X a' w') : wpOp Try.prog ops Q 22 X a w := by
  obtain ⟨t, p, f, ho⟩ := o22
  have hv : a.eval (.tmp 34) = .pointer (some ⟨K.b, 2, none⟩) := h.e 21 (by decide) (hp 21 (by decide)) 34 rfl
  have hc : w.cell? ⟨K.b, 2, none⟩ = some (.map (some K.bm)) := h.si.held.box.cell 2
  exact op_value (v := val K G 22) ho rfl (by simp [execOp, hv, run_loadM hc]; rfl) (hX _ _ ⟨G, h.pure (i := 22) (d := 35) (by decide) rfl (by unfold isC; omega) ⟨by decide, by decide, by decide, by decide, by decide, by decide, by decide, by decide⟩ (hp_of hp)⟩)
theorem s23 {Q : Exit → Act → World → Prop} {K : Kon} {L : Nat → Bool} {a : Act} {w : World} {G : Nat → Value} (h : Inv K L a w G) (hh : K.hi ≤ K.w0.heap.size) (h3 : K.A 3 = [K.c]) (h4 : K.A 4 = [K.t]) (h5 : K.A 5 = [K.s]) (hp : ∀ j ∈ Pd 23, L j = true) (hu : L 23 = false) (X : Act → World → Prop) (hX : ∀ a' w', (∃ G, Inv K (CelR.mark L 23) a' w' G) → X a' w') : wpOp Try.prog ops Q 23 X a w := by
  obtain ⟨t, p, f, ho⟩ := o23
  have hv : a.eval (.tmp 35) = .map (some K.bm) := h.e 22 (by decide) (hp 22 (by decide)) 35 rfl
  have hl := h.si.held.look 4
  rw [if_pos (by decide)] at hl
  rw [h4] at hl
  exact op_value (v := val K G 23) ho rfl (by simp only [execOp, hv, evc]; simp [hl]; rfl) (hX _ _ ⟨G, h.pure (i := 23) (d := 36) (by decide) rfl (by unfold isC; omega) ⟨by decide, by decide, by decide, by decide, by decide, by decide, by decide, by decide⟩ (hp_of hp)⟩)
theorem s24 {Q : Exit → Act → World → Prop} {K : Kon} {L : Nat → Bool} {a : Act} {w : World} {G : Nat → Value} (h : Inv K L a w G) (hh : K.hi ≤ K.w0.heap.size) (h3 : K.A 3 = [K.c]) (h4 : K.A 4 = [K.t]) (h5 : K.A 5 = [K.s]) (hp : ∀ j ∈ Pd 24, L j = true) (hu : L 24 = false) (X : Act → World → Prop) (hX : ∀ a' w', (∃ G, Inv K (CelR.mark L 24) a' w' G) → X a' w') : wpOp Try.prog ops Q 24 X a w := by
  obtain ⟨t, p, f, ho⟩ := o24
  have hv : a.eval (.tmp 36) = .slice (some ⟨K.g 4, 0, none⟩) 1 1 := h.e 23 (by decide) (hp 23 (by decide)) 36 rfl
  exact op_value (v := val K G 24) ho rfl (by simp only [execOp, hv, evc]; simp [run_index _ 1 rfl]; rfl) (hX _ _ ⟨G, h.pure (i := 24) (d := 37) (by decide) rfl (by unfold isC; omega) ⟨by decide, by decide, by decide, by decide, by decide, by decide, by decide, by decide⟩ (hp_of hp)⟩)
theorem s25 {Q : Exit → Act → World → Prop} {K : Kon} {L : Nat → Bool} {a : Act} {w : World} {G : Nat → Value} (h : Inv K L a w G) (hh : K.hi ≤ K.w0.heap.size) (h3 : K.A 3 = [K.c]) (h4 : K.A 4 = [K.t]) (h5 : K.A 5 = [K.s]) (hp : ∀ j ∈ Pd 25, L j = true) (hu : L 25 = false) (X : Act → World → Prop) (hX : ∀ a' w', (∃ G, Inv K (CelR.mark L 25) a' w' G) → X a' w') : wpOp Try.prog ops Q 25 X a w := by
  obtain ⟨t, p, f, ho⟩ := o25
  have hv : a.eval (.tmp 37) = .pointer (some ⟨K.g 4, 0, none⟩) := h.e 24 (by decide) (hp 24 (by decide)) 37 rfl
  have hc := Row.cell (h.si.held.row 4 (by decide)) 0 (by rw [h4]; simp)
  rw [h4] at hc
  have hc' : w.cell? ⟨K.g 4, 0, none⟩ = some (val K G 25) := hc
  exact op_value (v := val K G 25) ho rfl (by simp only [execOp, hv]; simp [run_loadU hc]; rfl) (hX _ _ ⟨G, h.pure (i := 25) (d := 38) (by decide) rfl (by unfold isC; omega) ⟨by decide, by decide, by decide, by decide, by decide, by decide, by decide, by decide⟩ (hp_of hp)⟩)
theorem s26 {Q : Exit → Act → World → Prop} {K : Kon} {L : Nat → Bool} {a : Act} {w : World} {G : Nat → Value} (h : Inv K L a w G) (hh : K.hi ≤ K.w0.heap.size) (h3 : K.A 3 = [K.c]) (h4 : K.A 4 = [K.t]) (h5 : K.A 5 = [K.s]) (hp : ∀ j ∈ Pd 26, L j = true) (hu : L 26 = false) (X : Act → World → Prop) (hX : ∀ a' w', (∃ G, Inv K (CelR.mark L 26) a' w' G) → X a' w') : wpOp Try.prog ops Q 26 X a w := by
  obtain ⟨t, p, f, ho⟩ := o26
  exact op_value (v := val K G 26) ho rfl (by simp only [execOp, h.f0]; rfl) (hX _ _ ⟨G, h.pure (i := 26) (d := 39) (by decide) rfl (by unfold isC; omega) ⟨by decide, by decide, by decide, by decide, by decide, by decide, by decide, by decide⟩ (hp_of hp)⟩)
theorem s27 {Q : Exit → Act → World → Prop} {K : Kon} {L : Nat → Bool} {a : Act} {w : World} {G : Nat → Value} (h : Inv K L a w G) (hh : K.hi ≤ K.w0.heap.size) (h3 : K.A 3 = [K.c]) (h4 : K.A 4 = [K.t]) (h5 : K.A 5 = [K.s]) (hp : ∀ j ∈ Pd 27, L j = true) (hu : L 27 = false) (X : Act → World → Prop) (hX : ∀ a' w', (∃ G, Inv K (CelR.mark L 27) a' w' G) → X a' w') : wpOp Try.prog ops Q 27 X a w := by
  obtain ⟨t, p, f, ho⟩ := o27
  have hv : a.eval (.tmp 39) = .pointer (some ⟨K.b, 0, none⟩) := h.e 26 (by decide) (hp 26 (by decide)) 39 rfl
  exact op_value (v := val K G 27) ho rfl (by simp [execOp, hv]; rfl) (hX _ _ ⟨G, h.pure (i := 27) (d := 40) (by decide) rfl (by unfold isC; omega) ⟨by decide, by decide, by decide, by decide, by decide, by decide, by decide, by decide⟩ (hp_of hp)⟩)
theorem s28 {Q : Exit → Act → World → Prop} {K : Kon} {L : Nat → Bool} {a : Act} {w : World} {G : Nat → Value} (h : Inv K L a w G) (hh : K.hi ≤ K.w0.heap.size) (h3 : K.A 3 = [K.c]) (h4 : K.A 4 = [K.t]) (h5 : K.A 5 = [K.s]) (hp : ∀ j ∈ Pd 28, L j = true) (hu : L 28 = false) (X : Act → World → Prop) (hX : ∀ a' w', (∃ G, Inv K (CelR.mark L 28) a' w' G) → X a' w') : wpOp Try.prog ops Q 28 X a w := by
  obtain ⟨t, p, f, ho⟩ := o28
  have hv : a.eval (.tmp 40) = .pointer (some ⟨K.b, 0, none⟩) := h.e 27 (by decide) (hp 27 (by decide)) 40 rfl
  exact op_value (v := val K G 28) ho rfl (by simp [execOp, hv, run_field K.b 0]; rfl) (hX _ _ ⟨G, h.pure (i := 28) (d := 41) (by decide) rfl (by unfold isC; omega) ⟨by decide, by decide, by decide, by decide, by decide, by decide, by decide, by decide⟩ (hp_of hp)⟩)
theorem s29 {Q : Exit → Act → World → Prop} {K : Kon} {L : Nat → Bool} {a : Act} {w : World} {G : Nat → Value} (h : Inv K L a w G) (hh : K.hi ≤ K.w0.heap.size) (h3 : K.A 3 = [K.c]) (h4 : K.A 4 = [K.t]) (h5 : K.A 5 = [K.s]) (hp : ∀ j ∈ Pd 29, L j = true) (hu : L 29 = false) (X : Act → World → Prop) (hX : ∀ a' w', (∃ G, Inv K (CelR.mark L 29) a' w' G) → X a' w') : wpOp Try.prog ops Q 29 X a w := by
  obtain ⟨t, p, f, ho⟩ := o29
  have hv : a.eval (.tmp 41) = .pointer (some ⟨K.b, 2, none⟩) := h.e 28 (by decide) (hp 28 (by decide)) 41 rfl
  have hc : w.cell? ⟨K.b, 2, none⟩ = some (.map (some K.bm)) := h.si.held.box.cell 2
  exact op_value (v := val K G 29) ho rfl (by simp [execOp, hv, run_loadM hc]; rfl) (hX _ _ ⟨G, h.pure (i := 29) (d := 42) (by decide) rfl (by unfold isC; omega) ⟨by decide, by decide, by decide, by decide, by decide, by decide, by decide, by decide⟩ (hp_of hp)⟩)
theorem s30 {Q : Exit → Act → World → Prop} {K : Kon} {L : Nat → Bool} {a : Act} {w : World} {G : Nat → Value} (h : Inv K L a w G) (hh : K.hi ≤ K.w0.heap.size) (h3 : K.A 3 = [K.c]) (h4 : K.A 4 = [K.t]) (h5 : K.A 5 = [K.s]) (hp : ∀ j ∈ Pd 30, L j = true) (hu : L 30 = false) (X : Act → World → Prop) (hX : ∀ a' w', (∃ G, Inv K (CelR.mark L 30) a' w' G) → X a' w') : wpOp Try.prog ops Q 30 X a w := by
  obtain ⟨t, p, f, ho⟩ := o30
  have hv : a.eval (.tmp 42) = .map (some K.bm) := h.e 29 (by decide) (hp 29 (by decide)) 42 rfl
  have hl := h.si.held.look 5
  rw [if_pos (by decide)] at hl
  rw [h5] at hl
  exact op_value (v := val K G 30) ho rfl (by simp only [execOp, hv, evc]; simp [hl]; rfl) (hX _ _ ⟨G, h.pure (i := 30) (d := 43) (by decide) rfl (by unfold isC; omega) ⟨by decide, by decide, by decide, by decide, by decide, by decide, by decide, by decide⟩ (hp_of hp)⟩)
theorem s31 {Q : Exit → Act → World → Prop} {K : Kon} {L : Nat → Bool} {a : Act} {w : World} {G : Nat → Value} (h : Inv K L a w G) (hh : K.hi ≤ K.w0.heap.size) (h3 : K.A 3 = [K.c]) (h4 : K.A 4 = [K.t]) (h5 : K.A 5 = [K.s]) (hp : ∀ j ∈ Pd 31, L j = true) (hu : L 31 = false) (X : Act → World → Prop) (hX : ∀ a' w', (∃ G, Inv K (CelR.mark L 31) a' w' G) → X a' w') : wpOp Try.prog ops Q 31 X a w := by
  obtain ⟨t, p, f, ho⟩ := o31
  have hv : a.eval (.tmp 43) = .slice (some ⟨K.g 5, 0, none⟩) 1 1 := h.e 30 (by decide) (hp 30 (by decide)) 43 rfl
  exact op_value (v := val K G 31) ho rfl (by simp only [execOp, hv, evc]; simp [run_index _ 1 rfl]; rfl) (hX _ _ ⟨G, h.pure (i := 31) (d := 44) (by decide) rfl (by unfold isC; omega) ⟨by decide, by decide, by decide, by decide, by decide, by decide, by decide, by decide⟩ (hp_of hp)⟩)
theorem s32 {Q : Exit → Act → World → Prop} {K : Kon} {L : Nat → Bool} {a : Act} {w : World} {G : Nat → Value} (h : Inv K L a w G) (hh : K.hi ≤ K.w0.heap.size) (h3 : K.A 3 = [K.c]) (h4 : K.A 4 = [K.t]) (h5 : K.A 5 = [K.s]) (hp : ∀ j ∈ Pd 32, L j = true) (hu : L 32 = false) (X : Act → World → Prop) (hX : ∀ a' w', (∃ G, Inv K (CelR.mark L 32) a' w' G) → X a' w') : wpOp Try.prog ops Q 32 X a w := by
  obtain ⟨t, p, f, ho⟩ := o32
  have hv : a.eval (.tmp 44) = .pointer (some ⟨K.g 5, 0, none⟩) := h.e 31 (by decide) (hp 31 (by decide)) 44 rfl
  have hc := Row.cell (h.si.held.row 5 (by decide)) 0 (by rw [h5]; simp)
  rw [h5] at hc
  have hc' : w.cell? ⟨K.g 5, 0, none⟩ = some (val K G 32) := hc
  exact op_value (v := val K G 32) ho rfl (by simp only [execOp, hv]; simp [run_loadU hc]; rfl) (hX _ _ ⟨G, h.pure (i := 32) (d := 45) (by decide) rfl (by unfold isC; omega) ⟨by decide, by decide, by decide, by decide, by decide, by decide, by decide, by decide⟩ (hp_of hp)⟩)
theorem s33 {Q : Exit → Act → World → Prop} {K : Kon} {L : Nat → Bool} {a : Act} {w : World} {G : Nat → Value} (h : Inv K L a w G) (hh : K.hi ≤ K.w0.heap.size) (h3 : K.A 3 = [K.c]) (h4 : K.A 4 = [K.t]) (h5 : K.A 5 = [K.s]) (hp : ∀ j ∈ Pd 33, L j = true) (hu : L 33 = false) (X : Act → World → Prop) (hX : ∀ a' w', (∃ G, Inv K (CelR.mark L 33) a' w' G) → X a' w') : wpOp Try.prog ops Q 33 X a w := by
  obtain ⟨t, p, f, ho⟩ := o33
  exact op_value (v := val K G 33) ho rfl (by simp only [execOp, h.f0]; rfl) (hX _ _ ⟨G, h.pure (i := 33) (d := 46) (by decide) rfl (by unfold isC; omega) ⟨by decide, by decide, by decide, by decide, by decide, by decide, by decide, by decide⟩ (hp_of hp)⟩)
theorem s34 {Q : Exit → Act → World → Prop} {K : Kon} {L : Nat → Bool} {a : Act} {w : World} {G : Nat → Value} (h : Inv K L a w G) (hh : K.hi ≤ K.w0.heap.size) (h3 : K.A 3 = [K.c]) (h4 : K.A 4 = [K.t]) (h5 : K.A 5 = [K.s]) (hp : ∀ j ∈ Pd 34, L j = true) (hu : L 34 = false) (X : Act → World → Prop) (hX : ∀ a' w', (∃ G, Inv K (CelR.mark L 34) a' w' G) → X a' w') : wpOp Try.prog ops Q 34 X a w := by
  obtain ⟨t, p, f, ho⟩ := o34
  have hv : a.eval (.tmp 46) = .pointer (some ⟨K.b, 0, none⟩) := h.e 33 (by decide) (hp 33 (by decide)) 46 rfl
  exact op_value (v := val K G 34) ho rfl (by simp [execOp, hv]; rfl) (hX _ _ ⟨G, h.pure (i := 34) (d := 47) (by decide) rfl (by unfold isC; omega) ⟨by decide, by decide, by decide, by decide, by decide, by decide, by decide, by decide⟩ (hp_of hp)⟩)
theorem s35 {Q : Exit → Act → World → Prop} {K : Kon} {L : Nat → Bool} {a : Act} {w : World} {G : Nat → Value} (h : Inv K L a w G) (hh : K.hi ≤ K.w0.heap.size) (h3 : K.A 3 = [K.c]) (h4 : K.A 4 = [K.t]) (h5 : K.A 5 = [K.s]) (hp : ∀ j ∈ Pd 35, L j = true) (hu : L 35 = false) (X : Act → World → Prop) (hX : ∀ a' w', (∃ G, Inv K (CelR.mark L 35) a' w' G) → X a' w') : wpOp Try.prog ops Q 35 X a w := by
  obtain ⟨t, p, f, ho⟩ := o35
  have hv : a.eval (.tmp 47) = .pointer (some ⟨K.b, 0, none⟩) := h.e 34 (by decide) (hp 34 (by decide)) 47 rfl
  exact op_value (v := val K G 35) ho rfl (by simp [execOp, hv, run_field K.b 0]; rfl) (hX _ _ ⟨G, h.pure (i := 35) (d := 48) (by decide) rfl (by unfold isC; omega) ⟨by decide, by decide, by decide, by decide, by decide, by decide, by decide, by decide⟩ (hp_of hp)⟩)
theorem s36 {Q : Exit → Act → World → Prop} {K : Kon} {L : Nat → Bool} {a : Act} {w : World} {G : Nat → Value} (h : Inv K L a w G) (hh : K.hi ≤ K.w0.heap.size) (h3 : K.A 3 = [K.c]) (h4 : K.A 4 = [K.t]) (h5 : K.A 5 = [K.s]) (hp : ∀ j ∈ Pd 36, L j = true) (hu : L 36 = false) (X : Act → World → Prop) (hX : ∀ a' w', (∃ G, Inv K (CelR.mark L 36) a' w' G) → X a' w') : wpOp Try.prog ops Q 36 X a w := by
  obtain ⟨t, p, f, ho⟩ := o36
  have hv : a.eval (.tmp 48) = .pointer (some ⟨K.b, 2, none⟩) := h.e 35 (by decide) (hp 35 (by decide)) 48 rfl
  have hc : w.cell? ⟨K.b, 2, none⟩ = some (.map (some K.bm)) := h.si.held.box.cell 2
  exact op_value (v := val K G 36) ho rfl (by simp [execOp, hv, run_loadM hc]; rfl) (hX _ _ ⟨G, h.pure (i := 36) (d := 49) (by decide) rfl (by unfold isC; omega) ⟨by decide, by decide, by decide, by decide, by decide, by decide, by decide, by decide⟩ (hp_of hp)⟩)
theorem s37 {Q : Exit → Act → World → Prop} {K : Kon} {L : Nat → Bool} {a : Act} {w : World} {G : Nat → Value} (h : Inv K L a w G) (hh : K.hi ≤ K.w0.heap.size) (h3 : K.A 3 = [K.c]) (h4 : K.A 4 = [K.t]) (h5 : K.A 5 = [K.s]) (hp : ∀ j ∈ Pd 37, L j = true) (hu : L 37 = false) (X : Act → World → Prop) (hX : ∀ a' w', (∃ G, Inv K (CelR.mark L 37) a' w' G) → X a' w') : wpOp Try.prog ops Q 37 X a w := by
  obtain ⟨t, p, f, ho⟩ := o37
  have hv : a.eval (.tmp 49) = .map (some K.bm) := h.e 36 (by decide) (hp 36 (by decide)) 49 rfl
  have hl := h.si.held.look 6
  rw [if_pos (by decide)] at hl
  exact op_value (v := val K G 37) ho rfl (by simp only [execOp, hv, evc]; simp [hl]; rfl) (hX _ _ ⟨G, h.pure (i := 37) (d := 50) (by decide) rfl (by unfold isC; omega) ⟨by decide, by decide, by decide, by decide, by decide, by decide, by decide, by decide⟩ (hp_of hp)⟩)
theorem s38 {Q : Exit → Act → World → Prop} {K : Kon} {L : Nat → Bool} {a : Act} {w : World} {G : Nat → Value} (h : Inv K L a w G) (hh : K.hi ≤ K.w0.heap.size) (h3 : K.A 3 = [K.c]) (h4 : K.A 4 = [K.t]) (h5 : K.A 5 = [K.s]) (hp : ∀ j ∈ Pd 38, L j = true) (hu : L 38 = false) (X : Act → World → Prop) (hX : ∀ a' w', (∃ G, Inv K (CelR.mark L 38) a' w' G) → X a' w') : wpOp Try.prog ops Q 38 X a w := by
  obtain ⟨t, p, f, ho⟩ := o38
  have hv : a.eval (.tmp 50) = .slice (some ⟨K.g 6, 0, none⟩) (K.A 6).length (K.A 6).length := h.e 37 (by decide) (hp 37 (by decide)) 50 rfl
  have hf : a.eval (.func 79) = .func (.func 79) #[] #[] := rfl
  have hin := run_callFunc_enter (P := Try.prog) Try.func79 (by kernel_rfl) rfl #[.slice (some ⟨K.g 6, 0, none⟩) (K.A 6).length (K.A 6).length] w
  refine op_call ho rfl (by simp [execOp, resolve, Deferred.ofValue, invoke, hv, hf, hin]) (k_clone w _ (K.A 6) (row_src (h.si.held.row 6 (by decide))) (h.si.held.len 6)) ?_
  rintro e w' ⟨A', c', rfl, ho', hb'⟩
  exact ⟨_, rfl, hX _ _ ⟨_, h.copy (i := 38) (d := 51) (by decide) rfl (by unfold isC; omega) hu (.slice A' (K.A 6).length c') hb' ho'⟩⟩
theorem s39 {Q : Exit → Act → World → Prop} {K : Kon} {L : Nat → Bool} {a : Act} {w : World} {G : Nat → Value} (h : Inv K L a w G) (hh : K.hi ≤ K.w0.heap.size) (h3 : K.A 3 = [K.c]) (h4 : K.A 4 = [K.t]) (h5 : K.A 5 = [K.s]) (hp : ∀ j ∈ Pd 39, L j = true) (hu : L 39 = false) (X : Act → World → Prop) (hX : ∀ a' w', (∃ G, Inv K (CelR.mark L 39) a' w' G) → X a' w') : wpOp Try.prog ops Q 39 X a w := by
  obtain ⟨t, p, f, ho⟩ := o39
  exact op_value (v := val K G 39) ho rfl (by simp only [execOp, h.f0]; rfl) (hX _ _ ⟨G, h.pure (i := 39) (d := 52) (by decide) rfl (by unfold isC; omega) ⟨by decide, by decide, by decide, by decide, by decide, by decide, by decide, by decide⟩ (hp_of hp)⟩)
theorem s40 {Q : Exit → Act → World → Prop} {K : Kon} {L : Nat → Bool} {a : Act} {w : World} {G : Nat → Value} (h : Inv K L a w G) (hh : K.hi ≤ K.w0.heap.size) (h3 : K.A 3 = [K.c]) (h4 : K.A 4 = [K.t]) (h5 : K.A 5 = [K.s]) (hp : ∀ j ∈ Pd 40, L j = true) (hu : L 40 = false) (X : Act → World → Prop) (hX : ∀ a' w', (∃ G, Inv K (CelR.mark L 40) a' w' G) → X a' w') : wpOp Try.prog ops Q 40 X a w := by
  obtain ⟨t, p, f, ho⟩ := o40
  have hv : a.eval (.tmp 52) = .pointer (some ⟨K.b, 0, none⟩) := h.e 39 (by decide) (hp 39 (by decide)) 52 rfl
  exact op_value (v := val K G 40) ho rfl (by simp [execOp, hv]; rfl) (hX _ _ ⟨G, h.pure (i := 40) (d := 53) (by decide) rfl (by unfold isC; omega) ⟨by decide, by decide, by decide, by decide, by decide, by decide, by decide, by decide⟩ (hp_of hp)⟩)
theorem s41 {Q : Exit → Act → World → Prop} {K : Kon} {L : Nat → Bool} {a : Act} {w : World} {G : Nat → Value} (h : Inv K L a w G) (hh : K.hi ≤ K.w0.heap.size) (h3 : K.A 3 = [K.c]) (h4 : K.A 4 = [K.t]) (h5 : K.A 5 = [K.s]) (hp : ∀ j ∈ Pd 41, L j = true) (hu : L 41 = false) (X : Act → World → Prop) (hX : ∀ a' w', (∃ G, Inv K (CelR.mark L 41) a' w' G) → X a' w') : wpOp Try.prog ops Q 41 X a w := by
  obtain ⟨t, p, f, ho⟩ := o41
  have hv : a.eval (.tmp 53) = .pointer (some ⟨K.b, 0, none⟩) := h.e 40 (by decide) (hp 40 (by decide)) 53 rfl
  exact op_value (v := val K G 41) ho rfl (by simp [execOp, hv, run_field K.b 0]; rfl) (hX _ _ ⟨G, h.pure (i := 41) (d := 54) (by decide) rfl (by unfold isC; omega) ⟨by decide, by decide, by decide, by decide, by decide, by decide, by decide, by decide⟩ (hp_of hp)⟩)
theorem s42 {Q : Exit → Act → World → Prop} {K : Kon} {L : Nat → Bool} {a : Act} {w : World} {G : Nat → Value} (h : Inv K L a w G) (hh : K.hi ≤ K.w0.heap.size) (h3 : K.A 3 = [K.c]) (h4 : K.A 4 = [K.t]) (h5 : K.A 5 = [K.s]) (hp : ∀ j ∈ Pd 42, L j = true) (hu : L 42 = false) (X : Act → World → Prop) (hX : ∀ a' w', (∃ G, Inv K (CelR.mark L 42) a' w' G) → X a' w') : wpOp Try.prog ops Q 42 X a w := by
  obtain ⟨t, p, f, ho⟩ := o42
  have hv : a.eval (.tmp 54) = .pointer (some ⟨K.b, 2, none⟩) := h.e 41 (by decide) (hp 41 (by decide)) 54 rfl
  have hc : w.cell? ⟨K.b, 2, none⟩ = some (.map (some K.bm)) := h.si.held.box.cell 2
  exact op_value (v := val K G 42) ho rfl (by simp [execOp, hv, run_loadM hc]; rfl) (hX _ _ ⟨G, h.pure (i := 42) (d := 55) (by decide) rfl (by unfold isC; omega) ⟨by decide, by decide, by decide, by decide, by decide, by decide, by decide, by decide⟩ (hp_of hp)⟩)
theorem s43 {Q : Exit → Act → World → Prop} {K : Kon} {L : Nat → Bool} {a : Act} {w : World} {G : Nat → Value} (h : Inv K L a w G) (hh : K.hi ≤ K.w0.heap.size) (h3 : K.A 3 = [K.c]) (h4 : K.A 4 = [K.t]) (h5 : K.A 5 = [K.s]) (hp : ∀ j ∈ Pd 43, L j = true) (hu : L 43 = false) (X : Act → World → Prop) (hX : ∀ a' w', (∃ G, Inv K (CelR.mark L 43) a' w' G) → X a' w') : wpOp Try.prog ops Q 43 X a w := by
  obtain ⟨t, p, f, ho⟩ := o43
  have hv : a.eval (.tmp 55) = .map (some K.bm) := h.e 42 (by decide) (hp 42 (by decide)) 55 rfl
  have hl := h.si.held.look 7
  rw [if_pos (by decide)] at hl
  exact op_value (v := val K G 43) ho rfl (by simp only [execOp, hv, evc]; simp [hl]; rfl) (hX _ _ ⟨G, h.pure (i := 43) (d := 56) (by decide) rfl (by unfold isC; omega) ⟨by decide, by decide, by decide, by decide, by decide, by decide, by decide, by decide⟩ (hp_of hp)⟩)
theorem s44 {Q : Exit → Act → World → Prop} {K : Kon} {L : Nat → Bool} {a : Act} {w : World} {G : Nat → Value} (h : Inv K L a w G) (hh : K.hi ≤ K.w0.heap.size) (h3 : K.A 3 = [K.c]) (h4 : K.A 4 = [K.t]) (h5 : K.A 5 = [K.s]) (hp : ∀ j ∈ Pd 44, L j = true) (hu : L 44 = false) (X : Act → World → Prop) (hX : ∀ a' w', (∃ G, Inv K (CelR.mark L 44) a' w' G) → X a' w') : wpOp Try.prog ops Q 44 X a w := by
  obtain ⟨t, p, f, ho⟩ := o44
  have hv : a.eval (.tmp 56) = .slice (some ⟨K.g 7, 0, none⟩) (K.A 7).length (K.A 7).length := h.e 43 (by decide) (hp 43 (by decide)) 56 rfl
  have hf : a.eval (.func 79) = .func (.func 79) #[] #[] := rfl
  have hin := run_callFunc_enter (P := Try.prog) Try.func79 (by kernel_rfl) rfl #[.slice (some ⟨K.g 7, 0, none⟩) (K.A 7).length (K.A 7).length] w
  refine op_call ho rfl (by simp [execOp, resolve, Deferred.ofValue, invoke, hv, hf, hin]) (k_clone w _ (K.A 7) (row_src (h.si.held.row 7 (by decide))) (h.si.held.len 7)) ?_
  rintro e w' ⟨A', c', rfl, ho', hb'⟩
  exact ⟨_, rfl, hX _ _ ⟨_, h.copy (i := 44) (d := 57) (by decide) rfl (by unfold isC; omega) hu (.slice A' (K.A 7).length c') hb' ho'⟩⟩
theorem s45 {Q : Exit → Act → World → Prop} {K : Kon} {L : Nat → Bool} {a : Act} {w : World} {G : Nat → Value} (h : Inv K L a w G) (hh : K.hi ≤ K.w0.heap.size) (h3 : K.A 3 = [K.c]) (h4 : K.A 4 = [K.t]) (h5 : K.A 5 = [K.s]) (hp : ∀ j ∈ Pd 45, L j = true) (hu : L 45 = false) (X : Act → World → Prop) (hX : ∀ a' w', (∃ G, Inv K (CelR.mark L 45) a' w' G) → X a' w') : wpOp Try.prog ops Q 45 X a w := by
  obtain ⟨t, p, f, ho⟩ := o45
  exact op_value (v := val K G 45) ho rfl (by simp only [execOp, h.f0]; rfl) (hX _ _ ⟨G, h.pure (i := 45) (d := 58) (by decide) rfl (by unfold isC; omega) ⟨by decide, by decide, by decide, by decide, by decide, by decide, by decide, by decide⟩ (hp_of hp)⟩)
theorem s46 {Q : Exit → Act → World → Prop} {K : Kon} {L : Nat → Bool} {a : Act} {w : World} {G : Nat → Value} (h : Inv K L a w G) (hh : K.hi ≤ K.w0.heap.size) (h3 : K.A 3 = [K.c]) (h4 : K.A 4 = [K.t]) (h5 : K.A 5 = [K.s]) (hp : ∀ j ∈ Pd 46, L j = true) (hu : L 46 = false) (X : Act → World → Prop) (hX : ∀ a' w', (∃ G, Inv K (CelR.mark L 46) a' w' G) → X a' w') : wpOp Try.prog ops Q 46 X a w := by
  obtain ⟨t, p, f, ho⟩ := o46
  have hv : a.eval (.tmp 58) = .pointer (some ⟨K.b, 0, none⟩) := h.e 45 (by decide) (hp 45 (by decide)) 58 rfl
  exact op_value (v := val K G 46) ho rfl (by simp [execOp, hv]; rfl) (hX _ _ ⟨G, h.pure (i := 46) (d := 59) (by decide) rfl (by unfold isC; omega) ⟨by decide, by decide, by decide, by decide, by decide, by decide, by decide, by decide⟩ (hp_of hp)⟩)
theorem s47 {Q : Exit → Act → World → Prop} {K : Kon} {L : Nat → Bool} {a : Act} {w : World} {G : Nat → Value} (h : Inv K L a w G) (hh : K.hi ≤ K.w0.heap.size) (h3 : K.A 3 = [K.c]) (h4 : K.A 4 = [K.t]) (h5 : K.A 5 = [K.s]) (hp : ∀ j ∈ Pd 47, L j = true) (hu : L 47 = false) (X : Act → World → Prop) (hX : ∀ a' w', (∃ G, Inv K (CelR.mark L 47) a' w' G) → X a' w') : wpOp Try.prog ops Q 47 X a w := by
  obtain ⟨t, p, f, ho⟩ := o47
  have hv : a.eval (.tmp 59) = .pointer (some ⟨K.b, 0, none⟩) := h.e 46 (by decide) (hp 46 (by decide)) 59 rfl
  exact op_value (v := val K G 47) ho rfl (by simp [execOp, hv, run_field K.b 0]; rfl) (hX _ _ ⟨G, h.pure (i := 47) (d := 60) (by decide) rfl (by unfold isC; omega) ⟨by decide, by decide, by decide, by decide, by decide, by decide, by decide, by decide⟩ (hp_of hp)⟩)
theorem s48 {Q : Exit → Act → World → Prop} {K : Kon} {L : Nat → Bool} {a : Act} {w : World} {G : Nat → Value} (h : Inv K L a w G) (hh : K.hi ≤ K.w0.heap.size) (h3 : K.A 3 = [K.c]) (h4 : K.A 4 = [K.t]) (h5 : K.A 5 = [K.s]) (hp : ∀ j ∈ Pd 48, L j = true) (hu : L 48 = false) (X : Act → World → Prop) (hX : ∀ a' w', (∃ G, Inv K (CelR.mark L 48) a' w' G) → X a' w') : wpOp Try.prog ops Q 48 X a w := by
  obtain ⟨t, p, f, ho⟩ := o48
  have hv : a.eval (.tmp 60) = .pointer (some ⟨K.b, 2, none⟩) := h.e 47 (by decide) (hp 47 (by decide)) 60 rfl
  have hc : w.cell? ⟨K.b, 2, none⟩ = some (.map (some K.bm)) := h.si.held.box.cell 2
  exact op_value (v := val K G 48) ho rfl (by simp [execOp, hv, run_loadM hc]; rfl) (hX _ _ ⟨G, h.pure (i := 48) (d := 61) (by decide) rfl (by unfold isC; omega) ⟨by decide, by decide, by decide, by decide, by decide, by decide, by decide, by decide⟩ (hp_of hp)⟩)
theorem s49 {Q : Exit → Act → World → Prop} {K : Kon} {L : Nat → Bool} {a : Act} {w : World} {G : Nat → Value} (h : Inv K L a w G) (hh : K.hi ≤ K.w0.heap.size) (h3 : K.A 3 = [K.c]) (h4 : K.A 4 = [K.t]) (h5 : K.A 5 = [K.s]) (hp : ∀ j ∈ Pd 49, L j = true) (hu : L 49 = false) (X : Act → World → Prop) (hX : ∀ a' w', (∃ G, Inv K (CelR.mark L 49) a' w' G) → X a' w') : wpOp Try.prog ops Q 49 X a w := by
  obtain ⟨t, p, f, ho⟩ := o49
  have hv : a.eval (.tmp 61) = .map (some K.bm) := h.e 48 (by decide) (hp 48 (by decide)) 61 rfl
  have hl := h.si.held.look 8
  rw [if_pos (by decide)] at hl
  exact op_value (v := val K G 49) ho rfl (by simp only [execOp, hv, evc]; simp [hl]; rfl) (hX _ _ ⟨G, h.pure (i := 49) (d := 62) (by decide) rfl (by unfold isC; omega) ⟨by decide, by decide, by decide, by decide, by decide, by decide, by decide, by decide⟩ (hp_of hp)⟩)
theorem s50 {Q : Exit → Act → World → Prop} {K : Kon} {L : Nat → Bool} {a : Act} {w : World} {G : Nat → Value} (h : Inv K L a w G) (hh : K.hi ≤ K.w0.heap.size) (h3 : K.A 3 = [K.c]) (h4 : K.A 4 = [K.t]) (h5 : K.A 5 = [K.s]) (hp : ∀ j ∈ Pd 50, L j = true) (hu : L 50 = false) (X : Act → World → Prop) (hX : ∀ a' w', (∃ G, Inv K (CelR.mark L 50) a' w' G) → X a' w') : wpOp Try.prog ops Q 50 X a w := by
  obtain ⟨t, p, f, ho⟩ := o50
  have hv : a.eval (.tmp 62) = .slice (some ⟨K.g 8, 0, none⟩) (K.A 8).length (K.A 8).length := h.e 49 (by decide) (hp 49 (by decide)) 62 rfl
  have hf : a.eval (.func 79) = .func (.func 79) #[] #[] := rfl
  have hin := run_callFunc_enter (P := Try.prog) Try.func79 (by kernel_rfl) rfl #[.slice (some ⟨K.g 8, 0, none⟩) (K.A 8).length (K.A 8).length] w
  refine op_call ho rfl (by simp [execOp, resolve, Deferred.ofValue, invoke, hv, hf, hin]) (k_clone w _ (K.A 8) (row_src (h.si.held.row 8 (by decide))) (h.si.held.len 8)) ?_
  rintro e w' ⟨A', c', rfl, ho', hb'⟩
  exact ⟨_, rfl, hX _ _ ⟨_, h.copy (i := 50) (d := 63) (by decide) rfl (by unfold isC; omega) hu (.slice A' (K.A 8).length c') hb' ho'⟩⟩
theorem s51 {Q : Exit → Act → World → Prop} {K : Kon} {L : Nat → Bool} {a : Act} {w : World} {G : Nat → Value} (h : Inv K L a w G) (hh : K.hi ≤ K.w0.heap.size) (h3 : K.A 3 = [K.c]) (h4 : K.A 4 = [K.t]) (h5 : K.A 5 = [K.s]) (hp : ∀ j ∈ Pd 51, L j = true) (hu : L 51 = false) (X : Act → World → Prop) (hX : ∀ a' w', (∃ G, Inv K (CelR.mark L 51) a' w' G) → X a' w') : wpOp Try.prog ops Q 51 X a w := by
  obtain ⟨t, p, f, ho⟩ := o51
  have h53 : L 53 = false := by
    cases hb : L 53 with
    | false => rfl
    | true => have := h.cl (53, 51) (by decide) hb; simp only at this; rw [hu] at this; cases this
  have h55 : L 55 = false := by
    cases hb : L 55 with
    | false => rfl
    | true => have := h.cl (55, 51) (by decide) hb; simp only at this; rw [hu] at this; cases this
  have h57 : L 57 = false := by
    cases hb : L 57 with
    | false => rfl
    | true => have := h.cl (57, 51) (by decide) hb; simp only at this; rw [hu] at this; cases this
  have h59 : L 59 = false := by
    cases hb : L 59 with
    | false => rfl
    | true => have := h.cl (59, 51) (by decide) hb; simp only at this; rw [hu] at this; cases this
  have h61 : L 61 = false := by
    cases hb : L 61 with
    | false => rfl
    | true => have := h.cl (61, 51) (by decide) hb; simp only at this; rw [hu] at this; cases this
  have h63 : L 63 = false := by
    cases hb : L 63 with
    | false => rfl
    | true => have := h.cl (63, 51) (by decide) hb; simp only at this; rw [hu] at this; cases this
  have h65 : L 65 = false := by
    cases hb : L 65 with
    | false => rfl
    | true => have := h.cl (65, 51) (by decide) hb; simp only at this; rw [hu] at this; cases this
  have h67 : L 67 = false := by
    cases hb : L 67 with
    | false => rfl
    | true => have := h.cl (67, 51) (by decide) hb; simp only at this; rw [hu] at this; cases this
  obtain ⟨w1, hrun, hm1, hw1⟩ := run_storeZ h.bx
  have hsi : SI K.lo K.hi K.w0 K.b K.A K.bm K.g w1 := by
    rw [hw1]
    exact (((((((h.si.set_ hh 0 _).set_ hh 1 _).set_ hh 2 _).set_ hh 3 _).set_ hh 4 _).set_ hh 5 _).set_ hh 6 _).set_ hh 7 _
  refine op_skip ho rfl (by simp only [execOp, h.f2, evc]; simp [hrun]) (hX _ _ ⟨G, h.fill hh (i := 51) (by unfold isC; omega) rfl (hp_of hp) hsi ?_ ?_⟩)
  · rw [bc_ne (by decide)]
    simpa [bc, h53, h55, h57, h59, h61, h63, h65, h67] using hm1
  · intro v xs ho
    have hne := own_ne_mem ho h.bx (by decide)
    rw [hw1]
    exact own_far (own_far (own_far (own_far (own_far (own_far (own_far (own_far ho (a := ⟨_, 0, none⟩) hne _) (a := ⟨_, 1, none⟩) hne _) (a := ⟨_, 2, none⟩) hne _) (a := ⟨_, 3, none⟩) hne _) (a := ⟨_, 4, none⟩) hne _) (a := ⟨_, 5, none⟩) hne _) (a := ⟨_, 6, none⟩) hne _) (a := ⟨_, 7, none⟩) hne _
theorem s52 {Q : Exit → Act → World → Prop} {K : Kon} {L : Nat → Bool} {a : Act} {w : World} {G : Nat → Value} (h : Inv K L a w G) (hh : K.hi ≤ K.w0.heap.size) (h3 : K.A 3 = [K.c]) (h4 : K.A 4 = [K.t]) (h5 : K.A 5 = [K.s]) (hp : ∀ j ∈ Pd 52, L j = true) (hu : L 52 = false) (X : Act → World → Prop) (hX : ∀ a' w', (∃ G, Inv K (CelR.mark L 52) a' w' G) → X a' w') : wpOp Try.prog ops Q 52 X a w := by
  obtain ⟨t, p, f, ho⟩ := o52
  exact op_value (v := val K G 52) ho rfl (by simp only [execOp, h.f2]; simp [run_img0]; rfl) (hX _ _ ⟨G, h.pure (i := 52) (d := 64) (by decide) rfl (by unfold isC; omega) ⟨by decide, by decide, by decide, by decide, by decide, by decide, by decide, by decide⟩ (hp_of hp)⟩)
theorem s53 {Q : Exit → Act → World → Prop} {K : Kon} {L : Nat → Bool} {a : Act} {w : World} {G : Nat → Value} (h : Inv K L a w G) (hh : K.hi ≤ K.w0.heap.size) (h3 : K.A 3 = [K.c]) (h4 : K.A 4 = [K.t]) (h5 : K.A 5 = [K.s]) (hp : ∀ j ∈ Pd 53, L j = true) (hu : L 53 = false) (X : Act → World → Prop) (hX : ∀ a' w', (∃ G, Inv K (CelR.mark L 53) a' w' G) → X a' w') : wpOp Try.prog ops Q 53 X a w := by
  obtain ⟨t, p, f, ho⟩ := o53
  have hv : a.eval (.tmp 64) = .pointer (some ⟨K.w0.heap.size, 0, none⟩) := h.e 52 (by decide) (hp 52 (by decide)) 64 rfl
  have hx0 : a.eval (.tmp 18) = G 5 := h.e 5 (by decide) (hp 5 (by decide)) 18 rfl
  obtain ⟨A', c', hg, _⟩ := own_slice (h.ow 5 (by unfold isC; omega) (hp 5 (by decide)))
  have hx : a.eval (.tmp 18) = .slice A' (K.A (kd 5)).length c' := hx0.trans hg
  obtain ⟨u, hc⟩ : ∃ u, w.cell? ⟨K.w0.heap.size, 0, none⟩ = some u := ⟨_, h.bx.cell 0⟩
  have hrun := run_storeS (A := A') (n := (K.A (kd 5)).length) (c := c') hc (h.bx.frozen 0)
  have hm := h.bx.set_ 0 (G 5)
  rw [← hg] at hrun
  refine op_skip ho rfl (by simp only [execOp, hv, hx0]; simp [hrun]) (hX _ _ ⟨G, h.fill hh (i := 53) (by unfold isC; omega) rfl (hp_of hp) (h.si.set_ hh 0 (G 5)) ?_ (h.far 0 (G 5))⟩)
  have : (bc K L G).setIfInBounds 0 (G 5) = bc K (CelR.mark L 53) G := by
    simp [bc, CelR.mark]
  rw [← this]
  exact hm
theorem s54 {Q : Exit → Act → World → Prop} {K : Kon} {L : Nat → Bool} {a : Act} {w : World} {G : Nat → Value} (h : Inv K L a w G) (hh : K.hi ≤ K.w0.heap.size) (h3 : K.A 3 = [K.c]) (h4 : K.A 4 = [K.t]) (h5 : K.A 5 = [K.s]) (hp : ∀ j ∈ Pd 54, L j = true) (hu : L 54 = false) (X : Act → World → Prop) (hX : ∀ a' w', (∃ G, Inv K (CelR.mark L 54) a' w' G) → X a' w') : wpOp Try.prog ops Q 54 X a w := by
  obtain ⟨t, p, f, ho⟩ := o54
  exact op_value (v := val K G 54) ho rfl (by simp only [execOp, h.f2]; simp [run_img1]; rfl) (hX _ _ ⟨G, h.pure (i := 54) (d := 65) (by decide) rfl (by unfold isC; omega) ⟨by decide, by decide, by decide, by decide, by decide, by decide, by decide, by decide⟩ (hp_of hp)⟩)
theorem s55 {Q : Exit → Act → World → Prop} {K : Kon} {L : Nat → Bool} {a : Act} {w : World} {G : Nat → Value} (h : Inv K L a w G) (hh : K.hi ≤ K.w0.heap.size) (h3 : K.A 3 = [K.c]) (h4 : K.A 4 = [K.t]) (h5 : K.A 5 = [K.s]) (hp : ∀ j ∈ Pd 55, L j = true) (hu : L 55 = false) (X : Act → World → Prop) (hX : ∀ a' w', (∃ G, Inv K (CelR.mark L 55) a' w' G) → X a' w') : wpOp Try.prog ops Q 55 X a w := by
  obtain ⟨t, p, f, ho⟩ := o55
  have hv : a.eval (.tmp 65) = .pointer (some ⟨K.w0.heap.size, 1, none⟩) := h.e 54 (by decide) (hp 54 (by decide)) 65 rfl
  have hx0 : a.eval (.tmp 24) = G 11 := h.e 11 (by decide) (hp 11 (by decide)) 24 rfl
  obtain ⟨A', c', hg, _⟩ := own_slice (h.ow 11 (by unfold isC; omega) (hp 11 (by decide)))
  have hx : a.eval (.tmp 24) = .slice A' (K.A (kd 11)).length c' := hx0.trans hg
  obtain ⟨u, hc⟩ : ∃ u, w.cell? ⟨K.w0.heap.size, 1, none⟩ = some u := ⟨_, h.bx.cell 1⟩
  have hrun := run_storeS (A := A') (n := (K.A (kd 11)).length) (c := c') hc (h.bx.frozen 1)
  have hm := h.bx.set_ 1 (G 11)
  rw [← hg] at hrun
  refine op_skip ho rfl (by simp only [execOp, hv, hx0]; simp [hrun]) (hX _ _ ⟨G, h.fill hh (i := 55) (by unfold isC; omega) rfl (hp_of hp) (h.si.set_ hh 1 (G 11)) ?_ (h.far 1 (G 11))⟩)
  have : (bc K L G).setIfInBounds 1 (G 11) = bc K (CelR.mark L 55) G := by
    simp [bc, CelR.mark]
  rw [← this]
  exact hm
theorem s56 {Q : Exit → Act → World → Prop} {K : Kon} {L : Nat → Bool} {a : Act} {w : World} {G : Nat → Value} (h : Inv K L a w G) (hh : K.hi ≤ K.w0.heap.size) (h3 : K.A 3 = [K.c]) (h4 : K.A 4 = [K.t]) (h5 : K.A 5 = [K.s]) (hp : ∀ j ∈ Pd 56, L j = true) (hu : L 56 = false) (X : Act → World → Prop) (hX : ∀ a' w', (∃ G, Inv K (CelR.mark L 56) a' w' G) → X a' w') : wpOp Try.prog ops Q 56 X a w := by
  obtain ⟨t, p, f, ho⟩ := o56
  exact op_value (v := val K G 56) ho rfl (by simp only [execOp, h.f2]; simp [run_img2]; rfl) (hX _ _ ⟨G, h.pure (i := 56) (d := 66) (by decide) rfl (by unfold isC; omega) ⟨by decide, by decide, by decide, by decide, by decide, by decide, by decide, by decide⟩ (hp_of hp)⟩)
theorem s57 {Q : Exit → Act → World → Prop} {K : Kon} {L : Nat → Bool} {a : Act} {w : World} {G : Nat → Value} (h : Inv K L a w G) (hh : K.hi ≤ K.w0.heap.size) (h3 : K.A 3 = [K.c]) (h4 : K.A 4 = [K.t]) (h5 : K.A 5 = [K.s]) (hp : ∀ j ∈ Pd 57, L j = true) (hu : L 57 = false) (X : Act → World → Prop) (hX : ∀ a' w', (∃ G, Inv K (CelR.mark L 57) a' w' G) → X a' w') : wpOp Try.prog ops Q 57 X a w := by
  obtain ⟨t, p, f, ho⟩ := o57
  have hv : a.eval (.tmp 66) = .pointer (some ⟨K.w0.heap.size, 2, none⟩) := h.e 56 (by decide) (hp 56 (by decide)) 66 rfl
  have hx : a.eval (.tmp 31) = .int .u64 K.c := h.e 18 (by decide) (hp 18 (by decide)) 31 rfl
  obtain ⟨u, hc⟩ : ∃ u, w.cell? ⟨K.w0.heap.size, 2, none⟩ = some u := ⟨_, h.bx.cell 2⟩
  have hrun := run_storeU (x := K.c) hc (h.bx.frozen 2)
  have hm := h.bx.set_ 2 (.int .u64 K.c)
  refine op_skip ho rfl (by simp only [execOp, hv, hx]; simp [hrun]) (hX _ _ ⟨G, h.fill hh (i := 57) (by unfold isC; omega) rfl (hp_of hp) (h.si.set_ hh 2 (.int .u64 K.c)) ?_ (h.far 2 (.int .u64 K.c))⟩)
  have : (bc K L G).setIfInBounds 2 (.int .u64 K.c) = bc K (CelR.mark L 57) G := by
    simp [bc, CelR.mark]
  rw [← this]
  exact hm
theorem s58 {Q : Exit → Act → World → Prop} {K : Kon} {L : Nat → Bool} {a : Act} {w : World} {G : Nat → Value} (h : Inv K L a w G) (hh : K.hi ≤ K.w0.heap.size) (h3 : K.A 3 = [K.c]) (h4 : K.A 4 = [K.t]) (h5 : K.A 5 = [K.s]) (hp : ∀ j ∈ Pd 58, L j = true) (hu : L 58 = false) (X : Act → World → Prop) (hX : ∀ a' w', (∃ G, Inv K (CelR.mark L 58) a' w' G) → X a' w') : wpOp Try.prog ops Q 58 X a w := by
  obtain ⟨t, p, f, ho⟩ := o58
  exact op_value (v := val K G 58) ho rfl (by simp only [execOp, h.f2]; simp [run_img3]; rfl) (hX _ _ ⟨G, h.pure (i := 58) (d := 67) (by decide) rfl (by unfold isC; omega) ⟨by decide, by decide, by decide, by decide, by decide, by decide, by decide, by decide⟩ (hp_of hp)⟩)
theorem s59 {Q : Exit → Act → World → Prop} {K : Kon} {L : Nat → Bool} {a : Act} {w : World} {G : Nat → Value} (h : Inv K L a w G) (hh : K.hi ≤ K.w0.heap.size) (h3 : K.A 3 = [K.c]) (h4 : K.A 4 = [K.t]) (h5 : K.A 5 = [K.s]) (hp : ∀ j ∈ Pd 59, L j = true) (hu : L 59 = false) (X : Act → World → Prop) (hX : ∀ a' w', (∃ G, Inv K (CelR.mark L 59) a' w' G) → X a' w') : wpOp Try.prog ops Q 59 X a w := by
  obtain ⟨t, p, f, ho⟩ := o59
  have hv : a.eval (.tmp 67) = .pointer (some ⟨K.w0.heap.size, 3, none⟩) := h.e 58 (by decide) (hp 58 (by decide)) 67 rfl
  have hx : a.eval (.tmp 38) = .int .u64 K.t := h.e 25 (by decide) (hp 25 (by decide)) 38 rfl
  obtain ⟨u, hc⟩ : ∃ u, w.cell? ⟨K.w0.heap.size, 3, none⟩ = some u := ⟨_, h.bx.cell 3⟩
  have hrun := run_storeU (x := K.t) hc (h.bx.frozen 3)
  have hm := h.bx.set_ 3 (.int .u64 K.t)
  refine op_skip ho rfl (by simp only [execOp, hv, hx]; simp [hrun]) (hX _ _ ⟨G, h.fill hh (i := 59) (by unfold isC; omega) rfl (hp_of hp) (h.si.set_ hh 3 (.int .u64 K.t)) ?_ (h.far 3 (.int .u64 K.t))⟩)
  have : (bc K L G).setIfInBounds 3 (.int .u64 K.t) = bc K (CelR.mark L 59) G := by
    simp [bc, CelR.mark]
  rw [← this]
  exact hm
theorem s60 {Q : Exit → Act → World → Prop} {K : Kon} {L : Nat → Bool} {a : Act} {w : World} {G : Nat → Value} (h : Inv K L a w G) (hh : K.hi ≤ K.w0.heap.size) (h3 : K.A 3 = [K.c]) (h4 : K.A 4 = [K.t]) (h5 : K.A 5 = [K.s]) (hp : ∀ j ∈ Pd 60, L j = true) (hu : L 60 = false) (X : Act → World → Prop) (hX : ∀ a' w', (∃ G, Inv K (CelR.mark L 60) a' w' G) → X a' w') : wpOp Try.prog ops Q 60 X a w := by
  obtain ⟨t, p, f, ho⟩ := o60
  exact op_value (v := val K G 60) ho rfl (by simp only [execOp, h.f2]; simp [run_img4]; rfl) (hX _ _ ⟨G, h.pure (i := 60) (d := 68) (by decide) rfl (by unfold isC; omega) ⟨by decide, by decide, by decide, by decide, by decide, by decide, by decide, by decide⟩ (hp_of hp)⟩)
theorem s61 {Q : Exit → Act → World → Prop} {K : Kon} {L : Nat → Bool} {a : Act} {w : World} {G : Nat → Value} (h : Inv K L a w G) (hh : K.hi ≤ K.w0.heap.size) (h3 : K.A 3 = [K.c]) (h4 : K.A 4 = [K.t]) (h5 : K.A 5 = [K.s]) (hp : ∀ j ∈ Pd 61, L j = true) (hu : L 61 = false) (X : Act → World → Prop) (hX : ∀ a' w', (∃ G, Inv K (CelR.mark L 61) a' w' G) → X a' w') : wpOp Try.prog ops Q 61 X a w := by
  obtain ⟨t, p, f, ho⟩ := o61
  have hv : a.eval (.tmp 68) = .pointer (some ⟨K.w0.heap.size, 4, none⟩) := h.e 60 (by decide) (hp 60 (by decide)) 68 rfl
  have hx : a.eval (.tmp 45) = .int .u64 K.s := h.e 32 (by decide) (hp 32 (by decide)) 45 rfl
  obtain ⟨u, hc⟩ : ∃ u, w.cell? ⟨K.w0.heap.size, 4, none⟩ = some u := ⟨_, h.bx.cell 4⟩
  have hrun := run_storeU (x := K.s) hc (h.bx.frozen 4)
  have hm := h.bx.set_ 4 (.int .u64 K.s)
  refine op_skip ho rfl (by simp only [execOp, hv, hx]; simp [hrun]) (hX _ _ ⟨G, h.fill hh (i := 61) (by unfold isC; omega) rfl (hp_of hp) (h.si.set_ hh 4 (.int .u64 K.s)) ?_ (h.far 4 (.int .u64 K.s))⟩)
  have : (bc K L G).setIfInBounds 4 (.int .u64 K.s) = bc K (CelR.mark L 61) G := by
    simp [bc, CelR.mark]
  rw [← this]
  exact hm
theorem s62 {Q : Exit → Act → World → Prop} {K : Kon} {L : Nat → Bool} {a : Act} {w : World} {G : Nat → Value} (h : Inv K L a w G) (hh : K.hi ≤ K.w0.heap.size) (h3 : K.A 3 = [K.c]) (h4 : K.A 4 = [K.t]) (h5 : K.A 5 = [K.s]) (hp : ∀ j ∈ Pd 62, L j = true) (hu : L 62 = false) (X : Act → World → Prop) (hX : ∀ a' w', (∃ G, Inv K (CelR.mark L 62) a' w' G) → X a' w') : wpOp Try.prog ops Q 62 X a w := by
  obtain ⟨t, p, f, ho⟩ := o62
  exact op_value (v := val K G 62) ho rfl (by simp only [execOp, h.f2]; simp [run_img5]; rfl) (hX _ _ ⟨G, h.pure (i := 62) (d := 69) (by decide) rfl (by unfold isC; omega) ⟨by decide, by decide, by decide, by decide, by decide, by decide, by decide, by decide⟩ (hp_of hp)⟩)
theorem s63 {Q : Exit → Act → World → Prop} {K : Kon} {L : Nat → Bool} {a : Act} {w : World} {G : Nat → Value} (h : Inv K L a w G) (hh : K.hi ≤ K.w0.heap.size) (h3 : K.A 3 = [K.c]) (h4 : K.A 4 = [K.t]) (h5 : K.A 5 = [K.s]) (hp : ∀ j ∈ Pd 63, L j = true) (hu : L 63 = false) (X : Act → World → Prop) (hX : ∀ a' w', (∃ G, Inv K (CelR.mark L 63) a' w' G) → X a' w') : wpOp Try.prog ops Q 63 X a w := by
  obtain ⟨t, p, f, ho⟩ := o63
  have hv : a.eval (.tmp 69) = .pointer (some ⟨K.w0.heap.size, 5, none⟩) := h.e 62 (by decide) (hp 62 (by decide)) 69 rfl
  have hx0 : a.eval (.tmp 51) = G 38 := h.e 38 (by decide) (hp 38 (by decide)) 51 rfl
  obtain ⟨A', c', hg, _⟩ := own_slice (h.ow 38 (by unfold isC; omega) (hp 38 (by decide)))
  have hx : a.eval (.tmp 51) = .slice A' (K.A (kd 38)).length c' := hx0.trans hg
  obtain ⟨u, hc⟩ : ∃ u, w.cell? ⟨K.w0.heap.size, 5, none⟩ = some u := ⟨_, h.bx.cell 5⟩
  have hrun := run_storeS (A := A') (n := (K.A (kd 38)).length) (c := c') hc (h.bx.frozen 5)
  have hm := h.bx.set_ 5 (G 38)
  rw [← hg] at hrun
  refine op_skip ho rfl (by simp only [execOp, hv, hx0]; simp [hrun]) (hX _ _ ⟨G, h.fill hh (i := 63) (by unfold isC; omega) rfl (hp_of hp) (h.si.set_ hh 5 (G 38)) ?_ (h.far 5 (G 38))⟩)
  have : (bc K L G).setIfInBounds 5 (G 38) = bc K (CelR.mark L 63) G := by
    simp [bc, CelR.mark]
  rw [← this]
  exact hm
theorem s64 {Q : Exit → Act → World → Prop} {K : Kon} {L : Nat → Bool} {a : Act} {w : World} {G : Nat → Value} (h : Inv K L a w G) (hh : K.hi ≤ K.w0.heap.size) (h3 : K.A 3 = [K.c]) (h4 : K.A 4 = [K.t]) (h5 : K.A 5 = [K.s]) (hp : ∀ j ∈ Pd 64, L j = true) (hu : L 64 = false) (X : Act → World → Prop) (hX : ∀ a' w', (∃ G, Inv K (CelR.mark L 64) a' w' G) → X a' w') : wpOp Try.prog ops Q 64 X a w := by
  obtain ⟨t, p, f, ho⟩ := o64
  exact op_value (v := val K G 64) ho rfl (by simp only [execOp, h.f2]; simp [run_img6]; rfl) (hX _ _ ⟨G, h.pure (i := 64) (d := 70) (by decide) rfl (by unfold isC; omega) ⟨by decide, by decide, by decide, by decide, by decide, by decide, by decide, by decide⟩ (hp_of hp)⟩)
theorem s65 {Q : Exit → Act → World → Prop} {K : Kon} {L : Nat → Bool} {a : Act} {w : World} {G : Nat → Value} (h : Inv K L a w G) (hh : K.hi ≤ K.w0.heap.size) (h3 : K.A 3 = [K.c]) (h4 : K.A 4 = [K.t]) (h5 : K.A 5 = [K.s]) (hp : ∀ j ∈ Pd 65, L j = true) (hu : L 65 = false) (X : Act → World → Prop) (hX : ∀ a' w', (∃ G, Inv K (CelR.mark L 65) a' w' G) → X a' w') : wpOp Try.prog ops Q 65 X a w := by
  obtain ⟨t, p, f, ho⟩ := o65
  have hv : a.eval (.tmp 70) = .pointer (some ⟨K.w0.heap.size, 6, none⟩) := h.e 64 (by decide) (hp 64 (by decide)) 70 rfl
  have hx0 : a.eval (.tmp 57) = G 44 := h.e 44 (by decide) (hp 44 (by decide)) 57 rfl
  obtain ⟨A', c', hg, _⟩ := own_slice (h.ow 44 (by unfold isC; omega) (hp 44 (by decide)))
  have hx : a.eval (.tmp 57) = .slice A' (K.A (kd 44)).length c' := hx0.trans hg
  obtain ⟨u, hc⟩ : ∃ u, w.cell? ⟨K.w0.heap.size, 6, none⟩ = some u := ⟨_, h.bx.cell 6⟩
  have hrun := run_storeS (A := A') (n := (K.A (kd 44)).length) (c := c') hc (h.bx.frozen 6)
  have hm := h.bx.set_ 6 (G 44)
  rw [← hg] at hrun
  refine op_skip ho rfl (by simp only [execOp, hv, hx0]; simp [hrun]) (hX _ _ ⟨G, h.fill hh (i := 65) (by unfold isC; omega) rfl (hp_of hp) (h.si.set_ hh 6 (G 44)) ?_ (h.far 6 (G 44))⟩)
  have : (bc K L G).setIfInBounds 6 (G 44) = bc K (CelR.mark L 65) G := by
    simp [bc, CelR.mark]
  rw [← this]
  exact hm
theorem s66 {Q : Exit → Act → World → Prop} {K : Kon} {L : Nat → Bool} {a : Act} {w : World} {G : Nat → Value} (h : Inv K L a w G) (hh : K.hi ≤ K.w0.heap.size) (h3 : K.A 3 = [K.c]) (h4 : K.A 4 = [K.t]) (h5 : K.A 5 = [K.s]) (hp : ∀ j ∈ Pd 66, L j = true) (hu : L 66 = false) (X : Act → World → Prop) (hX : ∀ a' w', (∃ G, Inv K (CelR.mark L 66) a' w' G) → X a' w') : wpOp Try.prog ops Q 66 X a w := by
  obtain ⟨t, p, f, ho⟩ := o66
  exact op_value (v := val K G 66) ho rfl (by simp only [execOp, h.f2]; simp [run_img7]; rfl) (hX _ _ ⟨G, h.pure (i := 66) (d := 71) (by decide) rfl (by unfold isC; omega) ⟨by decide, by decide, by decide, by decide, by decide, by decide, by decide, by decide⟩ (hp_of hp)⟩)
theorem s67 {Q : Exit → Act → World → Prop} {K : Kon} {L : Nat → Bool} {a : Act} {w : World} {G : Nat → Value} (h : Inv K L a w G) (hh : K.hi ≤ K.w0.heap.size) (h3 : K.A 3 = [K.c]) (h4 : K.A 4 = [K.t]) (h5 : K.A 5 = [K.s]) (hp : ∀ j ∈ Pd 67, L j = true) (hu : L 67 = false) (X : Act → World → Prop) (hX : ∀ a' w', (∃ G, Inv K (CelR.mark L 67) a' w' G) → X a' w') : wpOp Try.prog ops Q 67 X a w := by
  obtain ⟨t, p, f, ho⟩ := o67
  have hv : a.eval (.tmp 71) = .pointer (some ⟨K.w0.heap.size, 7, none⟩) := h.e 66 (by decide) (hp 66 (by decide)) 71 rfl
  have hx0 : a.eval (.tmp 63) = G 50 := h.e 50 (by decide) (hp 50 (by decide)) 63 rfl
  obtain ⟨A', c', hg, _⟩ := own_slice (h.ow 50 (by unfold isC; omega) (hp 50 (by decide)))
  have hx : a.eval (.tmp 63) = .slice A' (K.A (kd 50)).length c' := hx0.trans hg
  obtain ⟨u, hc⟩ : ∃ u, w.cell? ⟨K.w0.heap.size, 7, none⟩ = some u := ⟨_, h.bx.cell 7⟩
  have hrun := run_storeS (A := A') (n := (K.A (kd 50)).length) (c := c') hc (h.bx.frozen 7)
  have hm := h.bx.set_ 7 (G 50)
  rw [← hg] at hrun
  refine op_skip ho rfl (by simp only [execOp, hv, hx0]; simp [hrun]) (hX _ _ ⟨G, h.fill hh (i := 67) (by unfold isC; omega) rfl (hp_of hp) (h.si.set_ hh 7 (G 50)) ?_ (h.far 7 (G 50))⟩)
  have : (bc K L G).setIfInBounds 7 (G 50) = bc K (CelR.mark L 67) G := by
    simp [bc, CelR.mark]
  rw [← this]
  exact hm
end Go.Proofs.Ytpjbmbipkmpkhaa.CelK
