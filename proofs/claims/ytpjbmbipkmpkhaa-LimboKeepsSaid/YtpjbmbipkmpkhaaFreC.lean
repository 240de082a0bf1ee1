/-
  Contracts of freelist.List and of its reference: the list of a class.
-/
import Derived.Test.YtpjbmbipkmpkhaaFreP
import Derived.Test.YtpjbmbipkmpkhaaFreV
import Derived.Test.YtpjbmbipkmpkhaaCelT
import Derived.Test.YtpjbmbipkmpkhaaWordE
import Derived.BigQuiet
namespace Go.Proofs.Ytpjbmbipkmpkhaa.FreC
open Go.ChangeShapes Go.WideShapes Go.ChangeAt Go.RowKit
open PlainT BlkW LayS CelS CelM CelV CelN CelI CelQ LabD FreQ FreV WordC
set_option linter.unusedVariables false
set_option maxHeartbeats 1000000
set_option maxRecDepth 100000

abbrev TImg : TypeId := 39
abbrev TBo : TypeId := 4
/-- Marks as a block's cells. -/
def BB (xs : List Bool) : Array Value := (xs.map Value.bool).toArray
theorem BB_set (xs : List Bool) (i : Nat) (v : Bool) : (BB xs).setIfInBounds i (.bool v) = BB (xs.set i v) := by simp [BB]
theorem bb_cell {w : World} {g : Nat} {xs : List Bool} (h : Mem w g TBo (BB xs)) (i : Nat) (hi : i < xs.length) : w.cell? ⟨g, i, none⟩ = some (.bool (xs.getD i false)) := by
  rw [Mem.cell h, List.getD_eq_getElem?_getD, List.getElem?_eq_getElem hi]
  simp [BB, hi]
theorem bb_put {w : World} {g : Nat} {xs : List Bool} (h : Mem w g TBo (BB xs)) (i : Nat) (v : Bool) : Mem (w.setCell ⟨g, i, none⟩ (.bool v)) g TBo (BB (xs.set i v)) := by
  have := h.set_ i (.bool v)
  rwa [BB_set] at this
theorem made_false (n : Nat) : madeCells (Value.bool false).cells n = BB (List.replicate n false) := by
  apply Array.ext
  · simp [size_madeCells, BB]
  · intro i h1 h2
    simp [madeCells, BB, Value.cells, Nat.mod_one]
theorem make_bools (w : World) (n : Nat) (h : n ≤ 1000000) : (Instr.makeSlice 154 (.int .i64 n) (.int .i64 n)).run Try.prog w = .ok (.slice (some ⟨w.heap.size, 0, none⟩) n n) (w.alloc (.cells (BB (List.replicate n false)) TBo)) := by
  obtain ⟨i, hi, hz, hs, hb⟩ : ∃ i, Try.prog.info? TBo = some i ∧ i.zero = some (.bool false) ∧ i.size = 1 ∧ i.bytes = 1 := ⟨_, rfl, by kernel_rfl, by kernel_rfl, by kernel_rfl⟩
  have := run_make (P := Try.prog) w 154 TBo i (.bool false) Try.underlying154 hi hz .i64 .i64 n n (by omega) (Int.le_refl _) (by rw [hb]; omega) (by omega)
  rw [this, hs, Nat.mul_one, made_false]
  simp
theorem not_pq {w : World} {B g : Nat} {t : TypeId} {cs : Array Value} (h : Mem w g t cs) (hne : t ≠ TI) : ¬ PQ B w g := by
  rintro ⟨_, cur, hc⟩
  have h : w.heap[g]? = some (.cells cs t (0, 0)) := h
  rw [hc] at h
  injection h with h
  injection h with _ h2
  exact hne h2.symm
def lenS : Value → Nat
  | .slice _ n _ => n
  | _ => 0
/-- What is found. -/
def Lst (R : Option (List Int)) (w0 : World) (e : Ending) (w' : World) : Prop :=
  ∃ A n c er, e = .returned (.tuple #[.slice A n c, .int .i64 er]) ∧ Below w0.heap.size w0 w' ∧ ((R = none ∧ A = none ∧ n = 0 ∧ c = 0 ∧ er = 91) ∨ ∃ out, R = some out ∧ er = 0 ∧ OwnQ w' w0.heap.size (.slice A n c) out)
abbrev iBox (vd vo vl vh vn : Value) (c t s : Int) : Array Value := #[vd, vo, .int .u64 c, .int .u64 t, .int .u64 s, vl, vh, vn]
/-- A word of a row that came in. -/
theorem rd_at {w w' : World} {v : Value} {xs : List Int} (h : Rd w v xs) {B : Nat} (hb : Below B w w') (hB : w.heap.size ≤ B) {j : Nat} (hj : j < xs.length) : ∃ g o cap, v = .slice (some ⟨g, o, none⟩) xs.length cap ∧ w'.cell? ⟨g, o + j, none⟩ = some (.int .u64 (xs.getD j 0)) := by
  obtain ⟨p, cap, rfl, hc⟩ := h
  obtain ⟨g, o, rfl, hx⟩ := hc j (xs.getD j 0) (by rw [List.getD_eq_getElem?_getD, List.getElem?_eq_getElem hj]; rfl)
  exact ⟨g, o, cap, rfl, (World.cell?_of_block (hb.block g (Nat.lt_of_lt_of_le (World.block_lt_of_cell? _ _ hx) hB))).trans hx⟩
theorem a_list_range (A0 A1 A2 A3 A4 : Option Addr) (n0 n1 n2 n3 n4 c0 c1 c2 c3 c4 : Nat) (c t s k : Int) (h : k < 0 ∨ 4 ≤ k ∨ n3 ≠ 4) (w : World) : Calls Try.prog 45 #[imgV (.slice A0 n0 c0) (.slice A1 n1 c1) c t s (.slice A2 n2 c2) (.slice A3 n3 c3) (.slice A4 n4 c4), .int .i64 k] w fun e w' => e = .returned (.tuple #[.slice none 0 0, .int .i64 2]) ∧ Below w.heap.size w w' := by
  have HB := Lib.hid (below_new w (.cells (iBox (.slice A0 n0 c0) (.slice A1 n1 c1) (.slice A2 n2 c2) (.slice A3 n3 c3) (.slice A4 n4 c4) c t s) TImg))
  by_cases h1 : k < 0
  · go_enter Try.func45, Try.ntmps45
    go_wp2_with fail
    go_ret2
    exact ⟨rfl, HB.out⟩
  · by_cases h2 : 4 ≤ k
    · go_enter Try.func45, Try.ntmps45
      go_wp2_with fail
      go_ret2
      exact ⟨rfl, HB.out⟩
    · have h3 : ((n3 : Int) != 4) = true := by simp; omega
      go_enter Try.func45, Try.ntmps45
      go_wp2_with fail
      go_ret2
      exact ⟨rfl, HB.out⟩
theorem a_list (A0 A1 A2 A3 A4 : Option Addr) (n0 n1 n2 n c0 c1 c2 c3 c4 : Nat) (c t s : Int) (k : Nat) (hk : k ≤ 3) (w : World) (H N : List Int) (hH : Rd w (.slice A3 4 c3) H) (hH4 : H.length = 4) (hN : Rd w (.slice A4 n c4) N) (hNl : N.length = n) (h40 : n ≤ 1000) (x : Int) (hx : H.getD k 0 = x) (x0 : 0 ≤ x) (x1 : x ≤ 18446744073709551615) (hu : ∀ j, j < n → 0 ≤ N.getD j 0 ∧ N.getD j 0 ≤ 18446744073709551615) : Calls Try.prog 45 #[imgV (.slice A0 n0 c0) (.slice A1 n1 c1) c t s (.slice A2 n2 c2) (.slice A3 4 c3) (.slice A4 n c4), .int .i64 k] w (Lst (lsV N (x % 65536)) w) := by
  obtain ⟨ga, oa, ca, eA, hxa⟩ := rd_at hH (Below.refl w.heap.size w) (Nat.le_refl _) (j := k) (by omega)
  injection eA with eA e2 e3
  clear e2 e3
  subst eA
  rw [hx] at hxa
  have hga : ga < w.heap.size := World.block_lt_of_cell? _ _ hxa
  have HNN := Lib.hid hN
  have HNL := Lib.hid hNl
  have HU := Lib.hid hu
  clear hN hu hH hx hH4
  have HB0 := Lib.hid (below_new2 w (.cells (iBox (.slice A0 n0 c0) (.slice A1 n1 c1) (.slice A2 n2 c2) (.slice (some ⟨ga, oa, none⟩) 4 c3) (.slice A4 n c4) c t s) TImg) (.cells (BB (List.replicate n false)) TBo))
  have HX0 := Lib.hid ((Mem.new w TImg (iBox (.slice A0 n0 c0) (.slice A1 n1 c1) (.slice A2 n2 c2) (.slice (some ⟨ga, oa, none⟩) 4 c3) (.slice A4 n c4) c t s)).alloc (.cells (BB (List.replicate n false)) TBo))
  have HL0 : Hid (Mem _ (w.heap.size + 1) TBo (BB (List.replicate n false))) := Lib.hid (mem_new1 w (.cells (iBox (.slice A0 n0 c0) (.slice A1 n1 c1) (.slice A2 n2 c2) (.slice (some ⟨ga, oa, none⟩) 4 c3) (.slice A4 n c4) c t s) TImg) TBo (BB (List.replicate n false)))
  have hmk : ∀ w, (Instr.makeSlice 154 (.int .i64 n) (.int .i64 n)).run Try.prog w = .ok (.slice (some ⟨w.heap.size, 0, none⟩) n n) (w.alloc (.cells (BB (List.replicate n false)) TBo)) := fun w => make_bools w n (by omega)
  have hk0 : decide ((k : Int) < 0) = false := decide_eq_false (by omega)
  have hk4 : decide (4 ≤ (k : Int)) = false := decide_eq_false (by omega)
  have hkl : (k : Int) < 4 := by omega
  have htp := w_top x x0 x1
  have hm0 : 0 ≤ x % 65536 ∧ x % 65536 ≤ 65535 := by omega
  obtain ⟨m, hm⟩ : ∃ m, x % 65536 = m := ⟨_, rfl⟩
  rw [hm] at htp hm0 ⊢
  have hw1 : IntKind.i64.wrap (m - 1 + 1) = m := (IntWalk.i64_in _ (by omega)).trans (by omega)
  have hw2 : IntKind.u64.wrap m = m := IntWalk.u64_in _ (by omega)
  obtain ⟨R, hR⟩ : ∃ R, lsV N m = R := ⟨_, rfl⟩
  rw [hR]
  have HR := Lib.hid (((ls_start N m).symm.trans hR))
  clear hR hm x0 x1
  go_enter Try.func45, Try.ntmps45
  go_wp2_with (go_at_call 91; (with_reducible refine (htp _).mono ?_); rintro e w9 ⟨rfl, rfl⟩)
  obtain ⟨gx, hgx⟩ : ∃ gx, w.heap.size = gx := ⟨_, rfl⟩
  obtain ⟨W, hW⟩ : ∃ W, (w.alloc (.cells (iBox (.slice A0 n0 c0) (.slice A1 n1 c1) (.slice A2 n2 c2) (.slice (some ⟨ga, oa, none⟩) 4 c3) (.slice A4 n c4) c t s) TImg)).alloc (.cells (BB (List.replicate n false)) TBo) = W := ⟨_, rfl⟩
  rw [hW] at HB0 HX0 HL0
  first | rw [hW] | skip
  rw [hgx] at HX0 HL0
  first | rw [hgx] | skip
  have HG := Lib.hid hgx
  clear hW hgx hmk hxa
  clear hw1 hw2 htp hk0 hk4 hkl
  have hwn : IntKind.u64.wrap n = n := IntWalk.u64_in _ (by omega)
  go_loopw [6, 8] (fun bv kv wr => ∃ (A : Option Addr) (ln ca : Nat) (seen : List Bool) (out : List Int) (l : Int), kv = .int .u64 l ∧ 0 ≤ l ∧ l ≤ 18446744073709551615 ∧ bv = .slice A ln ca ∧ OwnQ wr w.heap.size (.slice A ln ca) out ∧ out.length = ln ∧ Mem wr (gx + 1) TBo (BB seen) ∧ seen.length = n ∧ ln + seen.count false = n ∧ lsF (seen.count false + 1) N seen out l = R ∧ Mem wr gx TImg (iBox (.slice A0 n0 c0) (.slice A1 n1 c1) (.slice A2 n2 c2) (.slice (some ⟨ga, oa, none⟩) 4 c3) (.slice A4 n c4) c t s) ∧ Below w.heap.size w wr) (fun bv _ _ => n - lenS bv)
  case atStart => exact ⟨none, 0, 0, List.replicate n false, [], m, rfl, by omega, by omega, rfl, ownq_nil _ _, rfl, HL0.out, by simp, by simp, by rw [← HNL.out]; exact HR.out, HX0.out, HB0.out⟩
  case round =>
    obtain ⟨A, ln, ca, seen, out, l, rfl, l0, l1, rfl, ho, hol, hs, hsl, hcn, hls, hbx, hbw⟩ := hrel
    have HO := Lib.hid ho
    have HS := Lib.hid hs
    have HX := Lib.hid hbx
    have HB := Lib.hid hbw
    have HSL := Lib.hid hsl
    have HOL := Lib.hid hol
    have HLS := Lib.hid hls
    have HCN := Lib.hid hcn
    clear ho hs hbx hbw hls HL0 HX0 HB0 hsl hol hcn HR
    have b7 := HX.out.cell 7
    simp at b7
    by_cases hz : l = 0
    · subst hz
      have HE := Lib.hid (ls_end HLS.out)
      clear HLS
      go_wp2_with fail
      go_ret2
      exact ⟨_, _, _, _, rfl, HB.out, .inr ⟨out, HE.out, rfl, HO.out⟩⟩
    · have hzb : (l != 0) = true := by simpa using hz
      by_cases hbig : (n : Int) < l
      · have hbb : decide ((n : Int) < l) = true := decide_eq_true hbig
        have HE := Lib.hid (ls_far HLS.out l0 (by rw [HNL.out]; exact hbig))
        clear HLS
        go_wp2_with fail
        go_ret2
        exact ⟨_, _, _, _, rfl, HB.out, .inl ⟨HE.out, rfl, rfl, rfl, rfl⟩⟩
      · have hbb : decide ((n : Int) < l) = false := decide_eq_false hbig
        obtain ⟨j, hj⟩ : ∃ j : Nat, l - 1 = j := ⟨(l - 1).toNat, by omega⟩
        have hjn : (j : Int) < n := by omega
        have hjt : (l - 1).toNat = j := by omega
        have hwj : IntKind.u64.wrap (l - 1) = j := (IntWalk.u64_in _ (by omega)).trans hj
        have hwi : IntKind.i64.wrap (j : Int) = j := IntWalk.i64_in _ (by omega)
        have hsc := bb_cell HS.out j (by rw [HSL.out]; omega)
        have hsf := HS.out.frozen j
        obtain ⟨sv, hsv⟩ : ∃ sv, seen.getD j false = sv := ⟨_, rfl⟩
        rw [hsv] at hsc
        cases sv with
        | true =>
          have HE := Lib.hid (ls_twice HLS.out hz (by rw [hjt]; exact hsv))
          clear HLS hj hsv
          go_wp2_with fail
          go_ret2
          exact ⟨_, _, _, _, rfl, HB.out, .inl ⟨HE.out, rfl, rfl, rfl, rfl⟩⟩
        | false =>
          have HSTP := Lib.hid (ls_step HLS.out (by rw [HSL.out, HNL.out]) (by omega) (by rw [HNL.out]; omega) (by rw [hjt]; exact hsv))
          rw [hjt, hj] at HSTP
          have HUJ := Lib.hid (HU.out j (by omega))
          clear HLS hj hsv hjt
          obtain ⟨gn, on, cn, eN, hnc⟩ := rd_at HNN.out (Below.refl w.heap.size w) (Nat.le_refl _) (j := j) (by rw [HNL.out]; omega)
          injection eN with eN e2 e3
          clear e2 e3
          subst eN
          have hgn : gn < w.heap.size := World.block_lt_of_cell? _ _ hnc
          obtain ⟨y, hy⟩ : ∃ y, N.getD j 0 = y := ⟨_, rfl⟩
          rw [hy] at hnc HUJ HSTP
          go_upto_region 10 with (fail)
          have HS2 := Lib.hid (bb_put HS.out j true)
          have HX2 := Lib.hid (HX.out.far (a := ⟨gx + 1, j, none⟩) (by show gx ≠ gx + 1; omega) (.bool true))
          have HO2 := Lib.hid (HO.out.fr (P := fun g => g = gx + 1) ((Fr.refl (fun g => g = gx + 1) wr).set_ ⟨gx + 1, j, none⟩ (.inl rfl) (.bool true)) (fun g hg e => by subst e; exact not_pq HS.out (by decide) hg))
          have HB2 := Lib.hid (HB.out.setCell (p := ⟨gx + 1, j, none⟩) (by show w.heap.size ≤ gx + 1; rw [HG.out]; omega) (.bool true))
          obtain ⟨W2, hW2⟩ : ∃ W2, wr.setCell ⟨gx + 1, j, none⟩ (.bool true) = W2 := ⟨_, rfl⟩
          rw [hW2] at HS2 HX2 HO2 HB2
          first | rw [hW2] | skip
          clear hW2 HS HX HO HB b7 hsc hsf
          obtain ⟨A2, c2', w3, hrun, ho3, hF⟩ := push_q HB2.out.size HO2.out (by have := HCN.out; rw [HOL.out]; omega) j
          rw [HOL.out] at hrun ho3
          have HO3 := Lib.hid ho3
          have HS3 := Lib.hid (mem_fr HS2.out hF (not_pq HS2.out (by decide)))
          have HX3 := Lib.hid (mem_fr HX2.out hF (not_pq HX2.out (by decide)))
          have HB3 := Lib.hid (hF.after HB2.out (fun g hg => hg.1) (Nat.le_refl _))
          have b7 := HX3.out.cell 7
          have hnc3 : w3.cell? ⟨gn, on + j, none⟩ = some (.int .u64 y) := (World.cell?_of_block (HB3.out.block gn hgn)).trans hnc
          simp at b7
          clear ho3 hF hnc HS2 HX2 HO2 HB2
          go_upto_region 11 with (at_builtin; refine wpList_append_run rfl _ _ _ rfl hrun (by rfl) (by rfl) ?_)
          go_wp2_with fail
          go_roundw
          case rel => exact ⟨A2, ln + 1, c2', _, _, y, rfl, HUJ.out.1, HUJ.out.2, rfl, HO3.out, by rw [List.length_append, HOL.out]; rfl, by have := HS3.out; simpa using this, by rw [List.length_set]; exact HSL.out, by have := HCN.out; have := HSTP.out.2; omega, HSTP.out.1, HX3.out, HB3.out⟩
          case measure => simp [lenS]; have := HCN.out; have := HSTP.out.2; omega
theorem r_list_range (A0 A1 A2 A3 A4 : Option Addr) (n0 n1 n2 n3 n4 c0 c1 c2 c3 c4 : Nat) (c t s k : Int) (h : k < 0 ∨ 4 ≤ k ∨ n3 ≠ 4) (w : World) : Calls Try.prog 46 #[imgV (.slice A0 n0 c0) (.slice A1 n1 c1) c t s (.slice A2 n2 c2) (.slice A3 n3 c3) (.slice A4 n4 c4), .int .i64 k] w fun e w' => e = .returned (.tuple #[.slice none 0 0, .int .i64 2]) ∧ Below w.heap.size w w' := by
  have HB := Lib.hid (below_new w (.cells (iBox (.slice A0 n0 c0) (.slice A1 n1 c1) (.slice A2 n2 c2) (.slice A3 n3 c3) (.slice A4 n4 c4) c t s) TImg))
  by_cases h1 : k < 0
  · go_enter Try.func46, Try.ntmps46
    go_wp2_with fail
    go_ret2
    exact ⟨rfl, HB.out⟩
  · by_cases h2 : 4 ≤ k
    · go_enter Try.func46, Try.ntmps46
      go_wp2_with fail
      go_ret2
      exact ⟨rfl, HB.out⟩
    · have h3 : ((n3 : Int) != 4) = true := by simp; omega
      go_enter Try.func46, Try.ntmps46
      go_wp2_with fail
      go_ret2
      exact ⟨rfl, HB.out⟩
theorem r_list (A0 A1 A2 A3 A4 : Option Addr) (n0 n1 n2 n c0 c1 c2 c3 c4 : Nat) (c t s : Int) (k : Nat) (hk : k ≤ 3) (w : World) (H N : List Int) (hH : Rd w (.slice A3 4 c3) H) (hH4 : H.length = 4) (hN : Rd w (.slice A4 n c4) N) (hNl : N.length = n) (h40 : n ≤ 1000) (x : Int) (hx : H.getD k 0 = x) (x0 : 0 ≤ x) (x1 : x ≤ 18446744073709551615) (hu : ∀ j, j < n → 0 ≤ N.getD j 0 ∧ N.getD j 0 ≤ 18446744073709551615) : Calls Try.prog 46 #[imgV (.slice A0 n0 c0) (.slice A1 n1 c1) c t s (.slice A2 n2 c2) (.slice A3 4 c3) (.slice A4 n c4), .int .i64 k] w (Lst (lsV N (x % 65536)) w) := by
  obtain ⟨ga, oa, ca, eA, hxa⟩ := rd_at hH (Below.refl w.heap.size w) (Nat.le_refl _) (j := k) (by omega)
  injection eA with eA e2 e3
  clear e2 e3
  subst eA
  rw [hx] at hxa
  have hga : ga < w.heap.size := World.block_lt_of_cell? _ _ hxa
  have HNN := Lib.hid hN
  have HNL := Lib.hid hNl
  have HU := Lib.hid hu
  clear hN hu hH hx hH4
  have HB0 := Lib.hid (below_new2 w (.cells (iBox (.slice A0 n0 c0) (.slice A1 n1 c1) (.slice A2 n2 c2) (.slice (some ⟨ga, oa, none⟩) 4 c3) (.slice A4 n c4) c t s) TImg) (.cells (BB (List.replicate n false)) TBo))
  have HX0 := Lib.hid ((Mem.new w TImg (iBox (.slice A0 n0 c0) (.slice A1 n1 c1) (.slice A2 n2 c2) (.slice (some ⟨ga, oa, none⟩) 4 c3) (.slice A4 n c4) c t s)).alloc (.cells (BB (List.replicate n false)) TBo))
  have HL0 : Hid (Mem _ (w.heap.size + 1) TBo (BB (List.replicate n false))) := Lib.hid (mem_new1 w (.cells (iBox (.slice A0 n0 c0) (.slice A1 n1 c1) (.slice A2 n2 c2) (.slice (some ⟨ga, oa, none⟩) 4 c3) (.slice A4 n c4) c t s) TImg) TBo (BB (List.replicate n false)))
  have hmk : ∀ w, (Instr.makeSlice 154 (.int .i64 n) (.int .i64 n)).run Try.prog w = .ok (.slice (some ⟨w.heap.size, 0, none⟩) n n) (w.alloc (.cells (BB (List.replicate n false)) TBo)) := fun w => make_bools w n (by omega)
  have hk0 : decide ((k : Int) < 0) = false := decide_eq_false (by omega)
  have hk4 : decide (4 ≤ (k : Int)) = false := decide_eq_false (by omega)
  have hkl : (k : Int) < 4 := by omega
  have htp := r_top x x0 x1
  have hm0 : 0 ≤ x % 65536 ∧ x % 65536 ≤ 65535 := by omega
  obtain ⟨m, hm⟩ : ∃ m, x % 65536 = m := ⟨_, rfl⟩
  rw [hm] at htp hm0 ⊢
  obtain ⟨R, hR⟩ : ∃ R, lsV N m = R := ⟨_, rfl⟩
  rw [hR]
  have HR := Lib.hid (((ls_start N m).symm.trans hR))
  clear hR hm x0 x1
  go_enter Try.func46, Try.ntmps46
  go_wp2_with (go_at_call 94; (with_reducible refine (htp _).mono ?_); rintro e w9 ⟨rfl, rfl⟩)
  obtain ⟨gx, hgx⟩ : ∃ gx, w.heap.size = gx := ⟨_, rfl⟩
  obtain ⟨W, hW⟩ : ∃ W, (w.alloc (.cells (iBox (.slice A0 n0 c0) (.slice A1 n1 c1) (.slice A2 n2 c2) (.slice (some ⟨ga, oa, none⟩) 4 c3) (.slice A4 n c4) c t s) TImg)).alloc (.cells (BB (List.replicate n false)) TBo) = W := ⟨_, rfl⟩
  rw [hW] at HB0 HX0 HL0
  first | rw [hW] | skip
  rw [hgx] at HX0 HL0
  first | rw [hgx] | skip
  have HG := Lib.hid hgx
  clear hW hgx hmk hxa
  clear htp hk0 hk4 hkl
  have hwn : IntKind.u64.wrap n = n := IntWalk.u64_in _ (by omega)
  go_loopw [6, 8] (fun bv kv wr => ∃ (A : Option Addr) (ln ca : Nat) (seen : List Bool) (out : List Int) (b l : Int), kv = .int .i64 b ∧ l = b + 1 ∧ 0 ≤ l ∧ l ≤ 70000 ∧ bv = .slice A ln ca ∧ OwnQ wr w.heap.size (.slice A ln ca) out ∧ out.length = ln ∧ Mem wr (gx + 1) TBo (BB seen) ∧ seen.length = n ∧ ln + seen.count false = n ∧ lsF (seen.count false + 1) N seen out l = R ∧ Mem wr gx TImg (iBox (.slice A0 n0 c0) (.slice A1 n1 c1) (.slice A2 n2 c2) (.slice (some ⟨ga, oa, none⟩) 4 c3) (.slice A4 n c4) c t s) ∧ Below w.heap.size w wr) (fun bv _ _ => n - lenS bv)
  case atStart => exact ⟨none, 0, 0, List.replicate n false, [], m - 1, m, rfl, by omega, by omega, by omega, rfl, ownq_nil _ _, rfl, HL0.out, by simp, by simp, by rw [← HNL.out]; exact HR.out, HX0.out, HB0.out⟩
  case round =>
    obtain ⟨A, ln, ca, seen, out, b, l, rfl, hlb, l0, l1, rfl, ho, hol, hs, hsl, hcn, hls, hbx, hbw⟩ := hrel
    have HO := Lib.hid ho
    have HS := Lib.hid hs
    have HX := Lib.hid hbx
    have HB := Lib.hid hbw
    have HSL := Lib.hid hsl
    have HOL := Lib.hid hol
    have HLS := Lib.hid hls
    have HCN := Lib.hid hcn
    clear ho hs hbx hbw hls HL0 HX0 HB0 hsl hol hcn HR
    have b7 := HX.out.cell 7
    simp at b7
    by_cases hz : l = 0
    · subst hz
      obtain rfl : b = -1 := by omega
      have HE := Lib.hid (ls_end HLS.out)
      clear HLS
      go_wp2_with fail
      go_ret2
      exact ⟨_, _, _, _, rfl, HB.out, .inr ⟨out, HE.out, rfl, HO.out⟩⟩
    · have hzb : (b != -1) = true := by simp; omega
      have hb0 : decide (b < 0) = false := decide_eq_false (by omega)
      by_cases hbig : (n : Int) < l
      · have hbb : decide ((n : Int) ≤ b) = true := decide_eq_true (by omega)
        have HE := Lib.hid (ls_far HLS.out l0 (by rw [HNL.out]; exact hbig))
        clear HLS
        go_wp2_with fail
        go_ret2
        exact ⟨_, _, _, _, rfl, HB.out, .inl ⟨HE.out, rfl, rfl, rfl, rfl⟩⟩
      · have hbb : decide ((n : Int) ≤ b) = false := decide_eq_false (by omega)
        obtain ⟨j, hj⟩ : ∃ j : Nat, l - 1 = j := ⟨(l - 1).toNat, by omega⟩
        have hjn : (j : Int) < n := by omega
        have hjt : (l - 1).toNat = j := by omega
        obtain rfl : b = j := by omega
        have hsc := bb_cell HS.out j (by rw [HSL.out]; omega)
        have hsf := HS.out.frozen j
        obtain ⟨sv, hsv⟩ : ∃ sv, seen.getD j false = sv := ⟨_, rfl⟩
        rw [hsv] at hsc
        cases sv with
        | true =>
          have HE := Lib.hid (ls_twice HLS.out hz (by rw [hjt]; exact hsv))
          clear HLS hj hsv
          go_wp2_with fail
          go_ret2
          exact ⟨_, _, _, _, rfl, HB.out, .inl ⟨HE.out, rfl, rfl, rfl, rfl⟩⟩
        | false =>
          have HSTP := Lib.hid (ls_step HLS.out (by rw [HSL.out, HNL.out]) (by omega) (by rw [HNL.out]; omega) (by rw [hjt]; exact hsv))
          rw [hjt, hj] at HSTP
          have HUJ := Lib.hid (HU.out j (by omega))
          clear HLS hj hsv hjt
          obtain ⟨gn, on, cn, eN, hnc⟩ := rd_at HNN.out (Below.refl w.heap.size w) (Nat.le_refl _) (j := j) (by rw [HNL.out]; omega)
          injection eN with eN e2 e3
          clear e2 e3
          subst eN
          have hgn : gn < w.heap.size := World.block_lt_of_cell? _ _ hnc
          obtain ⟨y, hy⟩ : ∃ y, N.getD j 0 = y := ⟨_, rfl⟩
          rw [hy] at hnc HUJ HSTP
          go_upto_region 10 with (fail)
          have HS2 := Lib.hid (bb_put HS.out j true)
          have HX2 := Lib.hid (HX.out.far (a := ⟨gx + 1, j, none⟩) (by show gx ≠ gx + 1; omega) (.bool true))
          have HO2 := Lib.hid (HO.out.fr (P := fun g => g = gx + 1) ((Fr.refl (fun g => g = gx + 1) wr).set_ ⟨gx + 1, j, none⟩ (.inl rfl) (.bool true)) (fun g hg e => by subst e; exact not_pq HS.out (by decide) hg))
          have HB2 := Lib.hid (HB.out.setCell (p := ⟨gx + 1, j, none⟩) (by show w.heap.size ≤ gx + 1; rw [HG.out]; omega) (.bool true))
          obtain ⟨W2, hW2⟩ : ∃ W2, wr.setCell ⟨gx + 1, j, none⟩ (.bool true) = W2 := ⟨_, rfl⟩
          rw [hW2] at HS2 HX2 HO2 HB2
          first | rw [hW2] | skip
          clear hW2 HS HX HO HB b7 hsc hsf
          obtain ⟨A2, c2', w3, hrun, ho3, hF⟩ := push_q HB2.out.size HO2.out (by have := HCN.out; rw [HOL.out]; omega) j
          rw [HOL.out] at hrun ho3
          have HO3 := Lib.hid ho3
          have HS3 := Lib.hid (mem_fr HS2.out hF (not_pq HS2.out (by decide)))
          have HX3 := Lib.hid (mem_fr HX2.out hF (not_pq HX2.out (by decide)))
          have HB3 := Lib.hid (hF.after HB2.out (fun g hg => hg.1) (Nat.le_refl _))
          have b7 := HX3.out.cell 7
          have hnc3 : w3.cell? ⟨gn, on + j, none⟩ = some (.int .u64 y) := (World.cell?_of_block (HB3.out.block gn hgn)).trans hnc
          simp at b7
          clear ho3 hF hnc HS2 HX2 HO2 HB2
          have hwy : IntKind.i64.wrap y = y ∨ (n : Int) < y := by
            by_cases h : (n : Int) < y
            · exact .inr h
            · exact .inl (IntWalk.i64_in _ (by have := HUJ.out.1; omega))
          go_upto_region 11 with (at_builtin; refine wpList_append_run rfl _ _ _ rfl hrun (by rfl) (by rfl) ?_)
          go_quiet (fail)
          by_cases hyb : (n : Int) < y
          · have hyd : decide ((n : Int) < y) = true := decide_eq_true hyb
            have HE := Lib.hid (ls_far HSTP.out.1 HUJ.out.1 (by rw [HNL.out]; exact hyb))
            clear HSTP
            go_wp2_with fail
            go_ret2
            exact ⟨_, _, _, _, rfl, below_drewN HB3.out _, .inl ⟨HE.out, rfl, rfl, rfl, rfl⟩⟩
          have hyd : decide ((n : Int) < y) = false := decide_eq_false hyb
          have hwy1 : IntKind.i64.wrap y = y := by rcases hwy with h | h; exact h; exact absurd h hyb
          have hwy2 : IntKind.i64.wrap (y - 1) = y - 1 := IntWalk.i64_in _ (by have := HUJ.out.1; omega)
          clear hwy
          go_wp2_with fail
          go_roundw
          case rel => exact ⟨A2, ln + 1, c2', _, _, y - 1, y, rfl, by omega, HUJ.out.1, by omega, rfl, HO3.out.below (below_drewN (Below.refl _ w3) _), by rw [List.length_append, HOL.out]; rfl, by have := HS3.out.drewN nq; simpa using this, by rw [List.length_set]; exact HSL.out, by have := HCN.out; have := HSTP.out.2; omega, HSTP.out.1, HX3.out.drewN _, below_drewN HB3.out _⟩
          case measure => simp [lenS]; have := HCN.out; have := HSTP.out.2; omega
end Go.Proofs.Ytpjbmbipkmpkhaa.FreC
