/-
  Contract of package cells: New of valid arguments.
-/
import Derived.Test.YtpjbmbipkmpkhaaCelL
import Derived.Test.YtpjbmbipkmpkhaaLayK
import Derived.Laws.CopyRow
import Derived.Deep.RegionHeld3
import Derived.Deep.RegionLaw
import Derived.Deep.Cut
namespace Go.Proofs.Ytpjbmbipkmpkhaa.CelN
open Go.ChangeShapes Go.WideShapes Go.ChangeAt Go.RowKit
open PlainT BlkW LayS LayA LayB LayD LayF LayH CelS CelM CelR CelL
set_option linter.unusedVariables false
set_option maxHeartbeats 1000000

/-- The cells of a new machine. -/
def A0 (q : Cfg) (n no nt : Nat) (xs : List Int) : Int → List Int := fun k =>
  if k = 1 then xs ++ List.replicate n 0 else if k = 2 then List.replicate no 0 else if k = 3 ∨ k = 4 ∨ k = 5 then [0] else if k = 6 then List.replicate nt 0 else if k = 7 then hdL q n else if k = 8 then nxL q n else []
/-- The slice v reads as the words xs. -/
def Src (w : World) (v : Value) (xs : List Int) : Prop := ∃ g o cap, v = .slice (some ⟨g, o, none⟩) xs.length cap ∧ ∀ j x, xs[j]? = some x → w.cell? ⟨g, o + j, none⟩ = some (.int .u64 x)
theorem Src.of_blocks {w w' : World} {v : Value} {xs : List Int} (h : Src w v xs) (hb : ∀ g, v.ownBlock = some g → w'.heap[g]? = w.heap[g]?) : Src w' v xs := by
  obtain ⟨g, o, cap, rfl, hc⟩ := h
  refine ⟨g, o, cap, rfl, fun j x hj => ?_⟩
  have h2 : w'.cell? ⟨g, o + j, none⟩ = w.cell? ⟨g, o + j, none⟩ := World.cell?_of_block (hb g rfl)
  rw [h2]
  exact hc j x hj
theorem add_off (g o i : Nat) : (⟨g, o, none⟩ : Addr).add i = ⟨g, o + i, none⟩ := by
  unfold Addr.add
  split <;> simp_all
theorem run_copy_src {w : World} {g n : Nat} {zs xs : List Int} {v : Value} (hg : Row w g zs) (hz : zs.length = n) (hs : Src w v xs) (hle : xs.length ≤ n) (ty : TypeId) :
    (Builtin.copy_ #[TR, TR] ty #[.slice (some ⟨g, 0, none⟩) n n, v]).run Try.prog w = .ok (goInt xs.length) (w.setRow g (U (xs ++ zs.drop xs.length))) := by
  obtain ⟨g', o, cap, rfl, hc⟩ := hs
  have hmin : Nat.min xs.length n = xs.length := Nat.min_eq_left hle
  have := run_copy_row Try.prog w TR TR ty TU g 0 n n ⟨g', o, none⟩ xs.length cap (U zs) TU (xs.map (Value.int .u64)) Try.underlying37 (by kernel_rfl) hg (by rw [List.length_map, hmin]) (by
    intro j x hj
    rw [List.getElem?_map] at hj
    cases hx : xs[j]? with
    | none => rw [hx] at hj; cases hj
    | some y =>
      rw [hx] at hj
      injection hj with hj
      rw [← hj, add_off]
      exact hc j y hx) (by simp [U_size]; omega) (by
    intro x hx
    obtain ⟨y, _, rfl⟩ := List.mem_map.1 hx
    rfl)
  rw [this]
  simp [U, List.map_drop]
theorem setRow_row {w : World} {g : Nat} {zs : List Int} (h : Row w g zs) (ys : List Int) : Row (w.setRow g (U ys)) g ys := setRow_heap w g (U zs) (U ys) TU (0, 0) h
theorem setRow_far {w : World} {g x : Nat} (hx : x ≠ g) (cs : Array Value) : (w.setRow g cs).heap[x]? = w.heap[x]? := by
  simp [World.setRow, Array.getElem?_modify, Ne.symm hx]
theorem setRow_stay {w : World} {g : Nat} (cs : Array Value) {w0 : World} (h : Below w0.heap.size w0 w) (hg : w0.heap.size ≤ g) : Below w0.heap.size w0 (w.setRow g cs) :=
  ⟨h.os, h.tape, h.output, by simpa [World.setRow] using h.size, fun x hx => (setRow_far (by omega) cs).trans (h.block x hx)⟩
/-- What the last region leaves. -/
theorem cells_of {K : Kon} {L : Nat → Bool} {a : Act} {w w0 : World} {g : Nat → Nat} {q : Cfg} {n : Nat} {xs : List Int} (h : Inv K L a w g) (hL : ∀ i, i < 25 → L i = true) (hB : Below w0.heap.size w0 K.w0)
    (hd : Row K.w0 K.gd (xs ++ List.replicate n 0)) (hnd : K.nd = xs.length + n) (hh : Row K.w0 K.gh (hdL q n)) (hnh : K.nh = 4) (hn : Row K.w0 K.gn (nxL q n)) (hnn : K.nn = n)
    (h1 : K.gd ≠ K.gh) (h2 : K.gd ≠ K.gn) (h3 : K.gh ≠ K.gn) (l1 : w0.heap.size ≤ K.gd) (l2 : w0.heap.size ≤ K.gh) (l3 : w0.heap.size ≤ K.gn) (b1 : xs.length ≤ 64) (b2 : n ≤ 64) (b3 : K.no ≤ 64) (b4 : K.nt ≤ 16) :
    Is w0.heap.size w.heap.size w (g 22) (A0 q n K.no K.nt xs) ∧ Below w0.heap.size w0 w := by
  have hs0 := hB.size
  have hB2 : Below w0.heap.size w0 w := hB.trans (h.old.mono hs0)
  refine ⟨⟨g 0, fun k => if k = 1 then K.gd else if k = 2 then g 5 else if k = 3 then g 7 else if k = 4 then g 9 else if k = 5 then g 11 else if k = 6 then g 14 else if k = 7 then K.gh else K.gn, ?_⟩, hB2⟩
  have m5 := h.row 5 (by unfold isMake; omega) (hL 5 (by omega))
  have m7 := h.row 7 (by unfold isMake; omega) (hL 7 (by omega))
  have m9 := h.row 9 (by unfold isMake; omega) (hL 9 (by omega))
  have m11 := h.row 11 (by unfold isMake; omega) (hL 11 (by omega))
  have m14 := h.row 14 (by unfold isMake; omega) (hL 14 (by omega))
  have hap : ∀ j k, isMake j → isMake k → g j = g k → j = k := fun j k hj hk he => h.ap j k hj hk (hL j (by unfold isMake at hj; omega)) (hL k (by unfold isMake at hk; omega)) he
  have p5 : isMake 5 := by unfold isMake; omega
  have p7 : isMake 7 := by unfold isMake; omega
  have p9 : isMake 9 := by unfold isMake; omega
  have p11 : isMake 11 := by unfold isMake; omega
  have p14 : isMake 14 := by unfold isMake; omega
  have x57 : g 5 ≠ g 7 := fun e => absurd (hap 5 7 p5 p7 e) (by decide)
  have x59 : g 5 ≠ g 9 := fun e => absurd (hap 5 9 p5 p9 e) (by decide)
  have x5b : g 5 ≠ g 11 := fun e => absurd (hap 5 11 p5 p11 e) (by decide)
  have x5e : g 5 ≠ g 14 := fun e => absurd (hap 5 14 p5 p14 e) (by decide)
  have x79 : g 7 ≠ g 9 := fun e => absurd (hap 7 9 p7 p9 e) (by decide)
  have x7b : g 7 ≠ g 11 := fun e => absurd (hap 7 11 p7 p11 e) (by decide)
  have x7e : g 7 ≠ g 14 := fun e => absurd (hap 7 14 p7 p14 e) (by decide)
  have x9b : g 9 ≠ g 11 := fun e => absurd (hap 9 11 p9 p11 e) (by decide)
  have x9e : g 9 ≠ g 14 := fun e => absurd (hap 9 14 p9 p14 e) (by decide)
  have xbe : g 11 ≠ g 14 := fun e => absurd (hap 11 14 p11 p14 e) (by decide)
  have y1 := hd.lt
  have y2 := hh.lt
  have y3 := hn.lt
  have z5 := m5.1.lt
  have z7 := m7.1.lt
  have z9 := m9.1.lt
  have z11 := m11.1.lt
  have z14 := m14.1.lt
  obtain ⟨hm, hm0⟩ := h.map (hL 0 (by omega))
  obtain ⟨hb, hb0⟩ := h.box (hL 22 (by omega))
  have hmlt := hm.lt
  have hblt := hb.lt
  have hws := h.old.size
  have k8 : ∀ k : Int, 1 ≤ k ∧ k ≤ 8 → k = 1 ∨ k = 2 ∨ k = 3 ∨ k = 4 ∨ k = 5 ∨ k = 6 ∨ k = 7 ∨ k = 8 := fun k hk => by omega
  refine ⟨hb, hm.congr fun k => ?_, fun k hk => ?_, fun j k hj hk he => ?_, ⟨by omega, hblt⟩, ⟨by omega, hmlt⟩, fun k hk => ?_, Nat.le_refl _, fun k => ?_, fun k hk => ?_⟩
  · unfold CelR.C rowsAt
    by_cases hk : 1 ≤ k ∧ k ≤ 8
    · rw [if_pos hk, if_pos hk]
      obtain ⟨i1, _⟩ := ins_src k hk
      rw [if_pos (hL _ i1)]
      rcases k8 k hk with rfl | rfl | rfl | rfl | rfl | rfl | rfl | rfl
      · simp [src, val, sl, A0, hnd]
      · simp [src, val, sl, A0]
      · simp [src, val, sl, A0]
      · simp [src, val, sl, A0]
      · simp [src, val, sl, A0]
      · simp [src, val, sl, A0]
      · simp [src, val, sl, A0, hnh, hd_len]
      · simp [src, val, sl, A0, hnn, nxL]
    · rw [if_neg hk, if_neg hk]
  · rcases k8 k hk with rfl | rfl | rfl | rfl | rfl | rfl | rfl | rfl
    · exact hd.below h.old hd.lt
    · exact m5.1
    · exact m7.1
    · exact m9.1
    · exact m11.1
    · exact m14.1
    · exact hh.below h.old hh.lt
    · exact hn.below h.old hn.lt
  · rcases k8 j hj with rfl | rfl | rfl | rfl | rfl | rfl | rfl | rfl <;> rcases k8 k hk with rfl | rfl | rfl | rfl | rfl | rfl | rfl | rfl <;> first | rfl | (exfalso; simp at he; omega)
  · rcases k8 k hk with rfl | rfl | rfl | rfl | rfl | rfl | rfl | rfl <;> simp <;> omega
  · unfold A0
    split
    · simp; omega
    · split
      · simp; omega
      · split
        · simp
        · split
          · simp; omega
          · split
            · rw [hd_len]; omega
            · split
              · simp [nxL]; omega
              · simp
  · unfold A0
    rw [if_neg (by omega), if_neg (by omega), if_neg (by omega), if_neg (by omega), if_neg (by omega), if_neg (by omega)]
theorem blocks_below (q : Cfg) (w : World) : Calls Try.prog 97 #[cfgV q] w fun e w' => e = .returned (.int .i64 (blkV q)) ∧ Below w.heap.size w w' := a_blocks q w
set_option maxRecDepth 100000 in
theorem a_new (q : Cfg) (hv : Valid q) (n no nt : Nat) (hn : blkV q = n) (hno : q.o = no) (t1 : 1 ≤ nt) (t2 : nt ≤ 16) (w : World) (v : Value) (xs : List Int) (hs : Src w v xs) (hl : (xs.length : Int) = q.w) (hvb : ∀ g, v.ownBlock = some g → g < w.heap.size) :
    Calls Try.prog 65 #[cfgV q, .int .i64 nt, v] w fun e w' => ∃ b, e = .returned (.tuple #[.pointer (some ⟨b, 0, none⟩), .int .i64 0]) ∧ Is w.heap.size w'.heap.size w' b (A0 q n no nt xs) ∧ Below w.heap.size w w' := by
  have HV := Lib.hid hv
  have HN := Lib.hid hn
  have HNO := Lib.hid hno
  have HS := Lib.hid hs
  have HL := Lib.hid hl
  have hck := a_check q
  rw [chk_iff.2 hv] at hck
  have hbl := blocks_below q
  rw [hn] at hbl
  have hli := a_lists q hv n hn
  have n64 : n ≤ 64 := by have := (blk_in q).2; omega
  have w64 : q.w ≤ 64 := by unfold Valid at hv; omega
  have w0 : 1 ≤ q.w := by unfold Valid at hv; omega
  have hwn : IntKind.i64.wrap (q.w + n) = q.w + n := IntWalk.i64_in _ (by omega)
  have hne : ((xs.length : Int) != q.w) = false := by simp [hl]
  have hmk : ∀ w, (Instr.makeSlice TR (.int .i64 (q.w + n)) (.int .i64 (q.w + n))).run Try.prog w = .ok (.slice (some ⟨w.heap.size, 0, none⟩) (xs.length + n) (xs.length + n)) (w.alloc (.cells (U (List.replicate (xs.length + n) 0)) TU)) := fun w => by
    have := make_row w (xs.length + n) (by omega)
    rwa [show ((xs.length + n : Nat) : Int) = q.w + n by omega] at this
  obtain ⟨sg, so, cap, rfl, _⟩ := hs
  have nt1 : (1 : Int) ≤ nt := by omega
  have nt2 : (nt : Int) ≤ 16 := by omega
  have HM := Lib.hid (Mem.new w TC (cells q))
  have HB := Lib.hid (below_new w (.cells (cells q) TC))
  clear hv hn hno hl
  go_enter Try.func65, Try.ntmps65
  go_upto_region 8 with (go_at_call 100; (with_reducible refine (hck _).mono ?_); rintro e w2 ⟨rfl, hb2⟩; have HB2 := Lib.hid (HB.out.trans (hb2.mono (by rw [size_new]; omega))); have HM2 := Lib.hid (HM.out.below hb2 HM.out.lt); clear hb2; obtain ⟨d0, d1, d2, d3, d4, d5, d6, d7, d8, d9, d10, d11, d12⟩ := box_cells HM2.out)
  have hq : HQ w w.heap.size q w2 := ⟨HM2.out, HB2.out⟩
  clear d0 d1 d2 d3 d4 d5 d6 d7 d8 d9 d10 d11 d12
  go_region_held3 (HeldQ w w.heap.size q) (first | exact heldq_drew hq | exact heldq_keep (by assumption) (by assumption) | exact heldq_keep (by assumption) (below_new _ _)) ((go_at_call 97; (with_reducible refine (hbl _).mono ?_); rintro e w3 ⟨rfl, hb3⟩))
  rename_i hH
  have hq4 := heldq_hq hH
  have HLT := HM2.out.lt
  clear hq hH HM2 HB2 HM HB
  obtain ⟨gd, hgd⟩ : ∃ gd, w3.heap.size = gd := ⟨_, rfl⟩
  have M4 : Row (w3.alloc (.cells (U (List.replicate (xs.length + n) 0)) TU)) gd (List.replicate (xs.length + n) 0) := hgd ▸ Mem.new _ _ _
  have hb3s : w.heap.size < gd := by
    have h1 := hb3.size
    have h3 : w2.drew.heap.size = w2.heap.size := rfl
    omega
  rw [hgd]
  obtain ⟨W, hW⟩ : ∃ W, w3.alloc (.cells (U (List.replicate (xs.length + n) 0)) TU) = W := ⟨_, rfl⟩
  rw [hW] at M4 hq4 ⊢
  clear hb3 hW hgd
  have HM := Lib.hid hq4.1
  have HB := Lib.hid hq4.2
  have hS4 : Src W (.slice (some ⟨sg, so, none⟩) xs.length cap) xs := HS.out.of_blocks fun g hg => HB.out.block g (hvb g hg)
  have hcopy := run_copy_src (n := xs.length + n) M4 (by simp) hS4 (by omega)
  have M5 := setRow_row M4 (xs ++ (List.replicate (xs.length + n) 0).drop xs.length)
  have B5 := setRow_stay (U (xs ++ (List.replicate (xs.length + n) 0).drop xs.length)) HB.out (Nat.le_of_lt hb3s)
  have HM5 : Mem (W.setRow gd (U (xs ++ (List.replicate (xs.length + n) 0).drop xs.length))) w.heap.size TC (cells q) := (setRow_far (by omega) _).trans HM.out
  rw [show (List.replicate (xs.length + n) (0 : Int)).drop xs.length = List.replicate n 0 by simp] at hcopy M5 B5 HM5
  obtain ⟨W5, hW5⟩ : ∃ W5, W.setRow gd (U (xs ++ List.replicate n 0)) = W5 := ⟨_, rfl⟩
  rw [hW5] at hcopy M5 B5 HM5
  clear hq4 HM HB hW5 M4
  have HX5 := Lib.hid M5
  have HB5 := Lib.hid B5
  have HC5 := Lib.hid HM5
  clear hmk hS4 M5 B5 HM5
  go_upto_region 10 with (fail)
  obtain ⟨d0, d1, d2, d3, d4, d5, d6, d7, d8, d9, d10, d11, d12⟩ := box_cells HC5.out
  go_upto_region 11 with (go_at_call 101; (with_reducible refine (hli _).mono ?_); rintro e w6 ⟨gh, gn, rfl, rh, rn, hne, lh, ln, hb6⟩)
  have R6 := HX5.out.below hb6 HX5.out.lt
  have C6 := HC5.out.below hb6 HC5.out.lt
  have B6 := below_trans2 HB5.out hb6
  have y1 := HX5.out.lt
  have y2 := HC5.out.lt
  have y3 := HB5.out.size
  have hfol : Try.prog.follows .mixedOrders = true := by kernel_rfl
  refine wp_region_any hfol ?_
  refine region_any (K0 := ⟨w6, w.heap.size, no, nt, gd, xs.length + n, gh, 4, gn, n⟩) (by have := HNO.out; have := HV.out; unfold Valid at this; simp only; omega) (by simp only; omega) (by have := C6.lt; exact this) (by have := C6.cell 1; simp only; rw [this]; simp [HNO.out]) (inv_start rfl rfl rfl rfl rfl rfl rfl (below_drewN (Below.refl _ _) 1)) ?_
  intro a' w' g L hI hall
  have hno64 : no ≤ 64 := by have := HNO.out; have := HV.out; unfold Valid at this; omega
  have hx64 : xs.length ≤ 64 := by have := HL.out; omega
  obtain ⟨hIs, hBw⟩ := cells_of (q := q) (n := n) (xs := xs) hI hall B6 R6 rfl rh rfl rn rfl (by simp only; omega) (by simp only; omega) hne (by simp only; omega) (by simp only; omega) (by simp only; omega) hx64 n64 hno64 t2
  have e6 := hI.e 23 (by omega) (hall 23 (by omega)) 6 rfl
  have e7 := hI.e 24 (by omega) (hall 24 (by omega)) 7 rfl
  simp only [Act.eval] at e6 e7
  have hdf := hI.df
  clear hI hall
  go_wp2
  refine bodyPost_ret (v := .tuple #[.pointer (some ⟨g 22, 0, none⟩), .int .i64 0]) ((results_tmp2 rfl _ _ _).trans (by rw [e6, e7]; rfl)) hdf ⟨g 22, rfl, hIs, hBw⟩
end Go.Proofs.Ytpjbmbipkmpkhaa.CelN
