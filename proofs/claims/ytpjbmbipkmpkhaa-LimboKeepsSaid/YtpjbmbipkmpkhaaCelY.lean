/-
  Image's region whole; the contract of Image.
-/
import Derived.Test.YtpjbmbipkmpkhaaCelK
namespace Go.Proofs.Ytpjbmbipkmpkhaa.CelY
open Go.ChangeShapes Go.WideShapes Go.ChangeAt Go.RowKit Go.MuLone
open PlainT BlkW CelS CelM CelP CelV CelN CelO CelI CelJ CelK
open CelR (any_inv op_value op_skip evc)
set_option linter.unusedVariables false
set_option maxRecDepth 100000
set_option maxHeartbeats 4000000

theorem step_ok {Q : Exit → Act → World → Prop} {K : Kon} (hh : K.hi ≤ K.w0.heap.size) (h3 : K.A 3 = [K.c]) (h4 : K.A 4 = [K.t]) (h5 : K.A 5 = [K.s]) :
    ∀ L a w i, (∃ G, CelJ.Inv K L a w G) → i < ops.size → L i = false → (∀ o, ops[i]? = some o → ∀ e ∈ o.after, Region.binds .any e = true → L e.on = true) → ∀ X : Act → World → Prop, (∀ a' w', (∃ G, CelJ.Inv K (CelR.mark L i) a' w' G) → X a' w') → wpOp Try.prog ops Q i X a w := by
  intro L a w i ⟨G, h⟩ hi hu hpre X hX
  rw [ops_size] at hi
  have hp := pr_of hi hpre
  clear hpre
  match i, hi, hu, hp, hX with
  | 0, hi, hu, hp, hX => exact s0 h hh h3 h4 h5 hp hu X hX
  | 1, hi, hu, hp, hX => exact s1 h hh h3 h4 h5 hp hu X hX
  | 2, hi, hu, hp, hX => exact s2 h hh h3 h4 h5 hp hu X hX
  | 3, hi, hu, hp, hX => exact s3 h hh h3 h4 h5 hp hu X hX
  | 4, hi, hu, hp, hX => exact s4 h hh h3 h4 h5 hp hu X hX
  | 5, hi, hu, hp, hX => exact s5 h hh h3 h4 h5 hp hu X hX
  | 6, hi, hu, hp, hX => exact s6 h hh h3 h4 h5 hp hu X hX
  | 7, hi, hu, hp, hX => exact s7 h hh h3 h4 h5 hp hu X hX
  | 8, hi, hu, hp, hX => exact s8 h hh h3 h4 h5 hp hu X hX
  | 9, hi, hu, hp, hX => exact s9 h hh h3 h4 h5 hp hu X hX
  | 10, hi, hu, hp, hX => exact s10 h hh h3 h4 h5 hp hu X hX
  | 11, hi, hu, hp, hX => exact s11 h hh h3 h4 h5 hp hu X hX
  | 12, hi, hu, hp, hX => exact s12 h hh h3 h4 h5 hp hu X hX
  | 13, hi, hu, hp, hX => exact s13 h hh h3 h4 h5 hp hu X hX
  | 14, hi, hu, hp, hX => exact s14 h hh h3 h4 h5 hp hu X hX
  | 15, hi, hu, hp, hX => exact s15 h hh h3 h4 h5 hp hu X hX
  | 16, hi, hu, hp, hX => exact s16 h hh h3 h4 h5 hp hu X hX
  | 17, hi, hu, hp, hX => exact s17 h hh h3 h4 h5 hp hu X hX
  | 18, hi, hu, hp, hX => exact s18 h hh h3 h4 h5 hp hu X hX
  | 19, hi, hu, hp, hX => exact s19 h hh h3 h4 h5 hp hu X hX
  | 20, hi, hu, hp, hX => exact s20 h hh h3 h4 h5 hp hu X hX
  | 21, hi, hu, hp, hX => exact s21 h hh h3 h4 h5 hp hu X hX
  | 22, hi, hu, hp, hX => exact s22 h hh h3 h4 h5 hp hu X hX
  | 23, hi, hu, hp, hX => exact s23 h hh h3 h4 h5 hp hu X hX
  | 24, hi, hu, hp, hX => exact s24 h hh h3 h4 h5 hp hu X hX
  | 25, hi, hu, hp, hX => exact s25 h hh h3 h4 h5 hp hu X hX
  | 26, hi, hu, hp, hX => exact s26 h hh h3 h4 h5 hp hu X hX
  | 27, hi, hu, hp, hX => exact s27 h hh h3 h4 h5 hp hu X hX
  | 28, hi, hu, hp, hX => exact s28 h hh h3 h4 h5 hp hu X hX
  | 29, hi, hu, hp, hX => exact s29 h hh h3 h4 h5 hp hu X hX
  | 30, hi, hu, hp, hX => exact s30 h hh h3 h4 h5 hp hu X hX
  | 31, hi, hu, hp, hX => exact s31 h hh h3 h4 h5 hp hu X hX
  | 32, hi, hu, hp, hX => exact s32 h hh h3 h4 h5 hp hu X hX
  | 33, hi, hu, hp, hX => exact s33 h hh h3 h4 h5 hp hu X hX
  | 34, hi, hu, hp, hX => exact s34 h hh h3 h4 h5 hp hu X hX
  | 35, hi, hu, hp, hX => exact s35 h hh h3 h4 h5 hp hu X hX
  | 36, hi, hu, hp, hX => exact s36 h hh h3 h4 h5 hp hu X hX
  | 37, hi, hu, hp, hX => exact s37 h hh h3 h4 h5 hp hu X hX
  | 38, hi, hu, hp, hX => exact s38 h hh h3 h4 h5 hp hu X hX
  | 39, hi, hu, hp, hX => exact s39 h hh h3 h4 h5 hp hu X hX
  | 40, hi, hu, hp, hX => exact s40 h hh h3 h4 h5 hp hu X hX
  | 41, hi, hu, hp, hX => exact s41 h hh h3 h4 h5 hp hu X hX
  | 42, hi, hu, hp, hX => exact s42 h hh h3 h4 h5 hp hu X hX
  | 43, hi, hu, hp, hX => exact s43 h hh h3 h4 h5 hp hu X hX
  | 44, hi, hu, hp, hX => exact s44 h hh h3 h4 h5 hp hu X hX
  | 45, hi, hu, hp, hX => exact s45 h hh h3 h4 h5 hp hu X hX
  | 46, hi, hu, hp, hX => exact s46 h hh h3 h4 h5 hp hu X hX
  | 47, hi, hu, hp, hX => exact s47 h hh h3 h4 h5 hp hu X hX
  | 48, hi, hu, hp, hX => exact s48 h hh h3 h4 h5 hp hu X hX
  | 49, hi, hu, hp, hX => exact s49 h hh h3 h4 h5 hp hu X hX
  | 50, hi, hu, hp, hX => exact s50 h hh h3 h4 h5 hp hu X hX
  | 51, hi, hu, hp, hX => exact s51 h hh h3 h4 h5 hp hu X hX
  | 52, hi, hu, hp, hX => exact s52 h hh h3 h4 h5 hp hu X hX
  | 53, hi, hu, hp, hX => exact s53 h hh h3 h4 h5 hp hu X hX
  | 54, hi, hu, hp, hX => exact s54 h hh h3 h4 h5 hp hu X hX
  | 55, hi, hu, hp, hX => exact s55 h hh h3 h4 h5 hp hu X hX
  | 56, hi, hu, hp, hX => exact s56 h hh h3 h4 h5 hp hu X hX
  | 57, hi, hu, hp, hX => exact s57 h hh h3 h4 h5 hp hu X hX
  | 58, hi, hu, hp, hX => exact s58 h hh h3 h4 h5 hp hu X hX
  | 59, hi, hu, hp, hX => exact s59 h hh h3 h4 h5 hp hu X hX
  | 60, hi, hu, hp, hX => exact s60 h hh h3 h4 h5 hp hu X hX
  | 61, hi, hu, hp, hX => exact s61 h hh h3 h4 h5 hp hu X hX
  | 62, hi, hu, hp, hX => exact s62 h hh h3 h4 h5 hp hu X hX
  | 63, hi, hu, hp, hX => exact s63 h hh h3 h4 h5 hp hu X hX
  | 64, hi, hu, hp, hX => exact s64 h hh h3 h4 h5 hp hu X hX
  | 65, hi, hu, hp, hX => exact s65 h hh h3 h4 h5 hp hu X hX
  | 66, hi, hu, hp, hX => exact s66 h hh h3 h4 h5 hp hu X hX
  | 67, hi, hu, hp, hX => exact s67 h hh h3 h4 h5 hp hu X hX
  | i + 68, hi, _, _, _ => exact absurd hi (by omega)
theorem region_any {Q : Exit → Act → World → Prop} {K : Kon} (hh : K.hi ≤ K.w0.heap.size) (h3 : K.A 3 = [K.c]) (h4 : K.A 4 = [K.t]) (h5 : K.A 5 = [K.s]) {a : Act} {w : World} {G : Nat → Value}
    (h : CelJ.Inv K (fun _ => false) a w G) (fin : ∀ a w G L, CelJ.Inv K L a w G → (∀ i, i < 68 → L i = true) → Q .normal a w) : wpAny Try.prog .any ops Q ops.size (Array.replicate ops.size false) a w :=
  any_inv (fun L a w => ∃ G, CelJ.Inv K L a w G) (step_ok hh h3 h4 h5) (fun L a w ⟨G, h⟩ hl => fin a w G L h (fun i hi => hl i (by rw [ops_size]; exact hi))) live ops.size (Array.replicate ops.size false) a w (by simp) (by
    have := List.length_filter_le (fun i => !(Array.replicate ops.size false).getD i true) (List.range ops.size)
    simpa only [List.length_range] using this) ⟨G, by
    have : (fun k => (Array.replicate ops.size false).getD k false) = fun _ => false := by
      funext k
      simp [Array.getElem?_replicate]
      split <;> rfl
    rw [this]
    exact h⟩
theorem m_image (lo hi : Nat) (w : World) (b : Nat) (A : Int → List Int) (h : Is lo hi w b A) (c t s : Int) (h3 : A 3 = [c]) (h4 : A 4 = [t]) (h5 : A 5 = [s]) : Calls Try.prog 17 #[.pointer (some ⟨b, 0, none⟩)] w fun e w' => ∃ vd vo vl vh vn, e = .returned (imgV vd vo c t s vl vh vn) ∧
    (OwnU w' w.heap.size vd (A 1) ∧ OwnU w' w.heap.size vo (A 2) ∧ OwnU w' w.heap.size vl (A 6) ∧ OwnU w' w.heap.size vh (A 7) ∧ OwnU w' w.heap.size vn (A 8)) ∧ Is lo hi w' b A ∧ Stay lo hi w w' := by
  obtain ⟨bm, g, h⟩ := h
  have H0 := h.alloc (.cells #[.slice none 0 0, .slice none 0 0, .int .u64 0, .int .u64 0, .int .u64 0, .slice none 0 0, .slice none 0 0, .slice none 0 0] 39)
  have k0 := H0.box.cell 0
  have k1 := H0.box.frozen 0
  have htop := h.top
  have hbin := h.bIn
  have hz : w.heap.size ≠ b := by omega
  have HA3 := Lib.hid h3
  have HA4 := Lib.hid h4
  have HA5 := Lib.hid h5
  have M0 : Mem ((w.alloc (.cells #[.slice none 0 0, .slice none 0 0, .int .u64 0, .int .u64 0, .int .u64 0, .slice none 0 0, .slice none 0 0, .slice none 0 0] 39)).setCell ⟨b, 0, none⟩ (.int .i32 1)) w.heap.size 39 #[.slice none 0 0, .slice none 0 0, .int .u64 0, .int .u64 0, .int .u64 0, .slice none 0 0, .slice none 0 0, .slice none 0 0] := (Mem.new w _ _).far (a := ⟨b, 0, none⟩) hz _
  have S0 : SI lo hi w b A bm g ((w.alloc (.cells #[.slice none 0 0, .slice none 0 0, .int .u64 0, .int .u64 0, .int .u64 0, .slice none 0 0, .slice none 0 0, .slice none 0 0] 39)).setCell ⟨b, 0, none⟩ (.int .i32 1)) := ⟨H0.take, ((Stay.refl lo hi w).alloc _).set_ _ (.inl h.bIn) _, M0.lt⟩
  clear h3 h4 h5 h
  obtain ⟨W1, hW1⟩ : ∃ W1, (w.alloc (.cells #[.slice none 0 0, .slice none 0 0, .int .u64 0, .int .u64 0, .int .u64 0, .slice none 0 0, .slice none 0 0, .slice none 0 0] 39)).setCell ⟨b, 0, none⟩ (.int .i32 1) = W1 := ⟨_, rfl⟩
  rw [hW1] at M0 S0
  have HM1 := Lib.hid M0
  have HS1 := Lib.hid S0
  clear M0 S0
  go_enter_defers Try.func17, Try.ntmps17
  go_upto_region 5 with (go_at_call 77; refine (lock_free Locks.lib ⟨b, 0, none⟩ _ k0 k1).mono ?_; rintro e w1 ⟨rfl, rfl⟩)
  first | rw [hW1] | skip
  clear hW1 k0 k1 H0
  have hfol : Try.prog.follows .mixedOrders = true := by kernel_rfl
  refine wp_region_any hfol ?_
  refine region_any (K := ⟨lo, hi, w, b, A, bm, g, c, t, s, [{ target := .fn (.func 78) #[], args := #[.pointer (some ⟨b, 0, none⟩)] }]⟩) htop HA3.out HA4.out HA5.out (G := fun _ => .slice none 0 0) ⟨rfl, rfl, rfl, rfl, (by intro _ _ h; cases h), HS1.out.drewN 1, HM1.out.drewN 1, (by intro _ _ h; cases h), (by intro _ _ h; cases h)⟩ ?_
  intro a' w' G L hI hall
  have h2 := hI.f2
  have hdf := hI.df
  have hbx := hI.bx
  simp only [bc, hall 53 (by omega), hall 55 (by omega), hall 57 (by omega), hall 59 (by omega), hall 61 (by omega), hall 63 (by omega), hall 65 (by omega), hall 67 (by omega), if_true] at hbx
  have o1 := hI.ow 5 (by unfold isC; omega) (hall 5 (by omega))
  have o2 := hI.ow 11 (by unfold isC; omega) (hall 11 (by omega))
  have o6 := hI.ow 38 (by unfold isC; omega) (hall 38 (by omega))
  have o7 := hI.ow 44 (by unfold isC; omega) (hall 44 (by omega))
  have o8 := hI.ow 50 (by unfold isC; omega) (hall 50 (by omega))
  have hsi := hI.si
  clear hI hall
  go_wp2
  show Leaves _ _ a'.tmps _ a'.defers .returning w'
  rw [hdf]
  refine leaves_cons (f := 78) (args := #[.pointer (some ⟨b, 0, none⟩)]) (by simp) (by simp [go_sem]) ?_
  refine (unlock_deferred Locks.lib ⟨b, 0, none⟩ .returning w' (hsi.held.box.cell 0) (hsi.held.box.frozen 0)).mono ?_
  rintro e u' w'' ⟨rfl, rfl, rfl⟩
  have hb2 : Mem (w'.setCell ⟨b, 0, none⟩ (.int .i32 0)) w.heap.size 39 #[G 5, G 11, .int .u64 c, .int .u64 t, .int .u64 s, G 38, G 44, G 50] := hbx.far (a := ⟨b, 0, none⟩) hz _
  have far : ∀ v xs, OwnU w' w.heap.size v xs → OwnU (w'.setCell ⟨b, 0, none⟩ (.int .i32 0)) w.heap.size v xs := fun v xs ho => own_far ho (own_ne_mem ho hsi.held.box (by decide)) _
  refine ⟨_, results_cell_row rfl _ _ w.heap.size 39 #[G 5, G 11, .int .u64 c, .int .u64 t, .int .u64 s, G 38, G 44, G 50] (0, 0) _ (by simpa [Act.eval] using h2) hb2 Try.underlying39 rfl (by kernel_rfl), G 5, G 11, G 38, G 44, G 50, rfl, ⟨far _ _ o1, far _ _ o2, far _ _ o6, far _ _ o7, far _ _ o8⟩, ⟨bm, g, hsi.held.give⟩, hsi.stay.set_ _ (.inl hbin) _⟩
end Go.Proofs.Ytpjbmbipkmpkhaa.CelY
