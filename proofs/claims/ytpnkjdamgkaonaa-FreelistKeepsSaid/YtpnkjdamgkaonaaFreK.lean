/-
  Contract of the statement's own count of the blocks: each is in the list of its class, held, or being pushed, exactly once.
-/
import Derived.Test.YtpnkjdamgkaonaaFreT
import Derived.Deep.RegionHeld3
namespace Go.Proofs.Ytpnkjdamgkaonaa.FreK
open Go.ChangeShapes Go.WideShapes Go.ChangeAt Go.RowKit
open PlainT BlkW LayS LayA LayH LayK LayP CelS CelM CelP CelV CelN CelO CelI CelY CelQ LabD LabR LabP LabS LabT FreP FreQ FreV FreC FreI FreA FreB FreS FreW FreL FreT
set_option linter.unusedVariables false
set_option maxHeartbeats 2000000
set_option maxRecDepth 100000

/-- How often each of the six blocks is in a list. -/
def cts (M : List Nat) : List Int := (List.range 6).map fun b => (M.count b : Int)
def IU (C : List Int) : Array Value := (C.map (Value.int .i64)).toArray
theorem cts_len (M : List Nat) : (cts M).length = 6 := by simp [cts]
theorem cts_at {M : List Nat} {b : Nat} (h : b < 6) : (IU (cts M))[b]? = some (.int .i64 (M.count b : Nat)) := by
  simp [IU, cts, h]
theorem cts_put {M : List Nat} {b : Nat} (h : b < 6) : (IU (cts M)).setIfInBounds b (.int .i64 ((M.count b : Int) + 1)) = IU (cts (M ++ [b])) := by
  apply Array.ext_getElem?
  intro i
  by_cases hi : i < 6
  · rw [cts_at hi]
    by_cases e : b = i
    · subst e
      rw [Array.getElem?_setIfInBounds_self_of_lt (by simp [IU, cts, h])]
      simp [List.count_append]
    · rw [Array.getElem?_setIfInBounds_ne e, cts_at hi]
      have : (M ++ [b]).count i = M.count i := by simp [List.count_append, e]
      rw [this]
  · rw [Array.getElem?_eq_none (by simp [IU, cts]; omega), Array.getElem?_eq_none (by simp [IU, cts]; omega)]
theorem make_ints (w : World) : (Instr.makeSlice 22 (.int .i64 6) (.int .i64 6)).run Try.prog w = .ok (.slice (some ⟨w.heap.size, 0, none⟩) 6 6) (w.alloc (.cells (IU (cts [])) TI)) := by
  obtain ⟨i, hi, hz, hs, hb⟩ : ∃ i, Try.prog.info? TI = some i ∧ i.zero = some (.int .i64 0) ∧ i.size = 1 ∧ i.bytes = 8 := ⟨_, rfl, by kernel_rfl, by kernel_rfl, by kernel_rfl⟩
  have := run_make (P := Try.prog) w 22 TI i (.int .i64 0) Try.underlying22 hi hz .i64 .i64 6 6 (by omega) (Int.le_refl _) (by rw [hb]; omega) (by omega)
  have e : madeCells (Value.int .i64 0).cells 6 = IU (cts []) := by
    apply Array.ext
    · simp [size_madeCells, IU, cts]
    · intro j h1 h2
      simp [madeCells, IU, cts, Value.cells, Nat.mod_one]
  rw [this, hs, Nat.mul_one, show (6 : Int).toNat = 6 from rfl, e]
/-- The lists of the classes before k. -/
def pre (L : Nat → List Nat) (k : Nat) : List Nat := match k with | 0 => [] | k + 1 => pre L k ++ L k
def pqv : Th → Value
  | .push g _ _ _ _ => .pointer (some ⟨g, 0, none⟩)
  | _ => .pointer none
/-- The blocks that the first k threads push. -/
def prp (p : Nat → Th) (k : Nat) : List Nat := match k with | 0 => [] | k + 1 => prp p k ++ pb (p k)
theorem tot_of (L : Nat → List Nat) (held : List Nat) (p : Nat → Th) (b : Nat) : (pre L 4 ++ held ++ prp p 4).count b = tot L held p b := by
  simp only [pre, prp, tot, List.count_append, List.nil_append]
  omega
theorem cl_of {b : Nat} (h : b < 6) : clsV hq b = (cl b : Int) := by
  have : b = 0 ∨ b = 1 ∨ b = 2 ∨ b = 3 ∨ b = 4 ∨ b = 5 := by omega
  rcases this with rfl | rfl | rfl | rfl | rfl | rfl <;> decide
abbrev TAq : TypeId := 68
abbrev TA4 : TypeId := 30
theorem arr_at {w : World} {g : Nat} {ty : TypeId} {f : Nat → Value} (h : Mem w g ty #[f 0, f 1, f 2, f 3]) {t : Nat} (ht : t ≤ 3) : w.cell? ⟨g, t, none⟩ = some (f t) := by
  rcases four ht with rfl | rfl | rfl | rfl
  · exact h.cell 0
  · exact h.cell 1
  · exact h.cell 2
  · exact h.cell 3
theorem rd_below {w w' : World} {v : Value} {xs : List Int} (h : Rd w v xs) (hb : Below w.heap.size w w') : Rd w' v xs := by
  obtain ⟨p, cap, rfl, hc⟩ := h
  refine ⟨p, cap, rfl, fun j x hj => ?_⟩
  obtain ⟨g, o, rfl, hx⟩ := hc j x hj
  exact ⟨g, o, rfl, (World.cell?_of_block (hb.block g (World.block_lt_of_cell? _ _ hx))).trans hx⟩
theorem box8 {w : World} {g : Nat} {vd vo vl vh vn : Value} {c t s : Int} (h : Mem w g TImg (iBox vd vo vl vh vn c t s)) : w.cell? ⟨g, 0, none⟩ = some vd ∧ w.cell? ⟨g, 1, none⟩ = some vo ∧ w.cell? ⟨g, 2, none⟩ = some (.int .u64 c) ∧ w.cell? ⟨g, 3, none⟩ = some (.int .u64 t) ∧ w.cell? ⟨g, 4, none⟩ = some (.int .u64 s) ∧ w.cell? ⟨g, 5, none⟩ = some vl ∧ w.cell? ⟨g, 6, none⟩ = some vh ∧ w.cell? ⟨g, 7, none⟩ = some vn :=
  ⟨h.cell 0, h.cell 1, h.cell 2, h.cell 3, h.cell 4, h.cell 5, h.cell 6, h.cell 7⟩
/-- What the count holds beside the counts. -/
structure KB (w : World) (gx ga gz gc : Nat) (IB : Array Value) (p : Nat → Th) (zs : Nat → Int) (M : List Nat) (W : World) : Prop where
  x : Mem W gx TImg IB
  a : Mem W ga TAq #[pqv (p 0), pqv (p 1), pqv (p 2), pqv (p 3)]
  z : Mem W gz TA4 #[.int .i64 (zs 0), .int .i64 (zs 1), .int .i64 (zs 2), .int .i64 (zs 3)]
  c : Mem W gc TI (IU (cts M))
  b : Below w.heap.size w W
section
variable {w W W' : World} {gx ga gz gc : Nat} {IB : Array Value} {p : Nat → Th} {zs : Nat → Int} {M : List Nat}
theorem KB.below (h : KB w gx ga gz gc IB p zs M W) (k : Below W.heap.size W W') : KB w gx ga gz gc IB p zs M W' :=
  ⟨h.x.below k h.x.lt, h.a.below k h.a.lt, h.z.below k h.z.lt, h.c.below k h.c.lt, h.b.trans (k.mono h.b.size)⟩
theorem KB.more (h : KB w gx ga gz gc IB p zs M W) (hn : gx ≠ gc ∧ ga ≠ gc ∧ gz ≠ gc ∧ w.heap.size ≤ gc) {b : Nat} (hb : b < 6) : KB w gx ga gz gc IB p zs (M ++ [b]) (W.setCell ⟨gc, b, none⟩ (.int .i64 ((M.count b : Int) + 1))) :=
  ⟨h.x.far (a := ⟨gc, b, none⟩) hn.1 _, h.a.far (a := ⟨gc, b, none⟩) hn.2.1 _, h.z.far (a := ⟨gc, b, none⟩) hn.2.2.1 _, by have := h.c.set_ b (.int .i64 ((M.count b : Int) + 1)); rwa [cts_put hb] at this, h.b.setCell (p := ⟨gc, b, none⟩) hn.2.2.2 _⟩
theorem KB.at_ (h : KB w gx ga gz gc IB p zs M W) {b : Nat} (hb : b < 6) : W.cell? ⟨gc, b, none⟩ = some (.int .i64 (M.count b : Nat)) := (h.c.cell b).trans (cts_at hb)
end
theorem take_snoc {l : List Nat} {j : Nat} (h : j < l.length) : l.take (j + 1) = l.take j ++ [l[j]] := by
  rw [List.take_add_one, List.getElem?_eq_getElem h]
  rfl
theorem pre_le (L : Nat → List Nat) (held : List Nat) (p : Nat → Th) {k : Nat} (hk : k ≤ 3) (j b : Nat) : (pre L k ++ (L k).take j).count b ≤ tot L held p b := by
  have h : ((L k).take j).count b ≤ (L k).count b := (List.take_sublist j (L k)).count_le b
  rcases four hk with rfl | rfl | rfl | rfl <;> simp only [pre, tot, List.count_append, List.nil_append] <;> omega
theorem held_le (L : Nat → List Nat) (held : List Nat) (p : Nat → Th) (j b : Nat) : (pre L 4 ++ held.take j).count b ≤ tot L held p b := by
  have h : (held.take j).count b ≤ held.count b := (List.take_sublist j held).count_le b
  simp only [pre, tot, List.count_append, List.nil_append]
  omega
theorem prp_le (L : Nat → List Nat) (held : List Nat) (p : Nat → Th) {k : Nat} (hk : k ≤ 4) (b : Nat) : (pre L 4 ++ held ++ prp p k).count b ≤ tot L held p b := by
  have : k = 0 ∨ k = 1 ∨ k = 2 ∨ k = 3 ∨ k = 4 := by omega
  rcases this with rfl | rfl | rfl | rfl | rfl <;> simp only [pre, prp, tot, List.count_append, List.nil_append, List.count_nil] <;> omega
theorem l_kept (A0 A1 A2 A3 A4 : Option Addr) (n0 n1 n2 c0 c1 c2 c3 c4 : Nat) (c t s : Int) (w : World) {K : Int} {T : Nat → Int} {L : Nat → List Nat} {N : List Int} {held : List Nat} {p : Nat → Th} (hI : Inv K T L N held p) (hK : K ≤ 1000000) (hH : Rd w (.slice A3 4 c3) (hds T L)) (hN : Rd w (.slice A4 6 c4) N) (Ah : Option Addr) (ch : Nat) (hh : RdI w (.slice Ah held.length ch) (held.map fun b : Nat => (b : Int))) (hl2 : held.length ≤ 1000) (zs : Nat → Int) (hz : ∀ t, t ≤ 3 → ∀ g st c b x, p t = .push g st c b x → zs t = b) :
    Calls Try.prog 34 #[imgV (.slice A0 n0 c0) (.slice A1 n1 c1) c t s (.slice A2 n2 c2) (.slice A3 4 c3) (.slice A4 6 c4), .slice Ah held.length ch, .agg #[pqv (p 0), pqv (p 1), pqv (p 2), pqv (p 3)], .agg #[.int .i64 (zs 0), .int .i64 (zs 1), .int .i64 (zs 2), .int .i64 (zs 3)]] w fun e w' => e = .returned (.bool true) ∧ Below w.heap.size w w' := by
  obtain ⟨IB, hIB⟩ : ∃ IB, iBox (.slice A0 n0 c0) (.slice A1 n1 c1) (.slice A2 n2 c2) (.slice A3 4 c3) (.slice A4 6 c4) c t s = IB := ⟨_, rfl⟩
  have HIB := Lib.hid hIB
  have hmk := make_ints
  have HI := Lib.hid hI
  have HH := Lib.hid hH
  have HN := Lib.hid hN
  have HHd := Lib.hid hh
  have HZ := Lib.hid hz
  have HPV : Hid (∀ t, t ≤ 3 → ∀ W, Mem W (w.heap.size + 1) TAq #[pqv (p 0), pqv (p 1), pqv (p 2), pqv (p 3)] → W.cell? ⟨w.heap.size + 1, t, none⟩ = some (pqv (p t))) := Lib.hid fun t ht W h => arr_at (f := fun t => pqv (p t)) h ht
  obtain ⟨v0, hv0⟩ : ∃ v, pqv (p 0) = v := ⟨_, rfl⟩
  obtain ⟨v1, hv1⟩ : ∃ v, pqv (p 1) = v := ⟨_, rfl⟩
  obtain ⟨v2, hv2⟩ : ∃ v, pqv (p 2) = v := ⟨_, rfl⟩
  obtain ⟨v3, hv3⟩ : ∃ v, pqv (p 3) = v := ⟨_, rfl⟩
  rw [hv0, hv1, hv2, hv3]
  have HV := Lib.hid (And.intro hv0 (And.intro hv1 (And.intro hv2 hv3)))
  clear hI hH hN hh hz hv0 hv1 hv2 hv3
  go_enter Try.func34, Try.ntmps34
  go_upto_region 1 with (fail)
  first | rw [hIB] | skip
  clear hIB
  have M1 := ((Mem.new w TImg IB).alloc (.cells #[v0, v1, v2, v3] TAq)).alloc (.cells #[.int .i64 (zs 0), .int .i64 (zs 1), .int .i64 (zs 2), .int .i64 (zs 3)] TA4)
  have M2 := (mem_new1 w (.cells IB TImg) TAq #[v0, v1, v2, v3]).alloc (.cells #[.int .i64 (zs 0), .int .i64 (zs 1), .int .i64 (zs 2), .int .i64 (zs 3)] TA4)
  have M3 := mem_new2 w (.cells IB TImg) (.cells #[v0, v1, v2, v3] TAq) TA4 #[.int .i64 (zs 0), .int .i64 (zs 1), .int .i64 (zs 2), .int .i64 (zs 3)]
  have HB3 := below_new3 w (.cells IB TImg) (.cells #[v0, v1, v2, v3] TAq) (.cells #[.int .i64 (zs 0), .int .i64 (zs 1), .int .i64 (zs 2), .int .i64 (zs 3)] TA4)
  have SZ3 : (((w.alloc (.cells IB TImg)).alloc (.cells #[v0, v1, v2, v3] TAq)).alloc (.cells #[.int .i64 (zs 0), .int .i64 (zs 1), .int .i64 (zs 2), .int .i64 (zs 3)] TA4)).heap.size = w.heap.size + 3 := by rw [size_new, size_new, size_new]
  obtain ⟨W3, hW⟩ : ∃ W', ((w.alloc (.cells IB TImg)).alloc (.cells #[v0, v1, v2, v3] TAq)).alloc (.cells #[.int .i64 (zs 0), .int .i64 (zs 1), .int .i64 (zs 2), .int .i64 (zs 3)] TA4) = W' := ⟨_, rfl⟩
  rw [hW] at M1 M2 M3 HB3 SZ3
  first | rw [hW] | skip
  clear hW
  have HK0 : Hid (KB w w.heap.size (w.heap.size + 1) (w.heap.size + 2) (w.heap.size + 3) IB p zs [] (W3.alloc (.cells (IU (cts [])) TI))) := Lib.hid ⟨M1.alloc _, by rw [HV.out.1, HV.out.2.1, HV.out.2.2.1, HV.out.2.2.2]; exact M2.alloc _, M3.alloc _, by rw [← SZ3]; exact Mem.new W3 TI _, HB3.alloc HB3.size _⟩
  clear M1 M2 M3 HB3
  go_upto_region 2 with (fail)
  obtain ⟨gx, hgx⟩ : ∃ gx, w.heap.size = gx := ⟨_, rfl⟩
  obtain ⟨ga, hga⟩ : ∃ ga, gx + 1 = ga := ⟨_, rfl⟩
  obtain ⟨gz, hgz⟩ : ∃ gz, gx + 1 + 1 = gz := ⟨_, rfl⟩
  obtain ⟨gc, hgc2⟩ : ∃ gc, gx + 3 = gc := ⟨_, rfl⟩
  have hgz2 : gx + 2 = gz := hgz
  rw [hgx] at HK0 HPV
  rw [hga, hgz2, hgc2] at HK0
  rw [hga] at HPV
  first | rw [hgx] | skip
  first | rw [hgc2] | skip
  first | rw [hgz] | skip
  first | rw [hga] | skip
  have HGX := Lib.hid hgx
  have hord : gx < ga ∧ ga < gz ∧ gz < gc := by omega
  obtain ⟨W4, hW⟩ : ∃ W', W3.alloc (.cells (IU (cts [])) TI) = W' := ⟨_, rfl⟩
  rw [hW] at HK0
  first | rw [hW] | skip
  clear hW SZ3 hgx hga hgz hgz2 hgc2 hmk HV
  have hsz : w.heap.size = gx := HGX.out
  have hdist : gx ≠ gc ∧ ga ≠ gc ∧ gz ≠ gc ∧ w.heap.size ≤ gc := by omega
  have hla := l_heap
  go_wp2_with fail
  go_loopw [10] (fun kv wr => ∃ k : Nat, k ≤ 4 ∧ kv = .int .i64 k ∧ KB w gx ga gz gc IB p zs (pre L k) wr) (fun kv _ => 4 - (intOf kv).toNat)
  case atStart => exact ⟨0, by omega, rfl, HK0.out⟩
  case round =>
    obtain ⟨k, hk4, rfl, hkb⟩ := hrel
    have HKB := Lib.hid hkb
    clear hkb HK0
    by_cases hk : k < 4
    · have hkI : (k : Int) < 4 := by omega
      have k3 : k ≤ 3 := by omega
      have hx1 : Mem wr gx TImg (iBox (.slice A0 n0 c0) (.slice A1 n1 c1) (.slice A2 n2 c2) (.slice A3 4 c3) (.slice A4 6 c4) c t s) := HIB.out ▸ HKB.out.x
      obtain ⟨d0, d1, d2, d3, d4, d5, d6, d7⟩ := box8 hx1
      have hT := HI.out.T0 k k3
      have hd6 := HI.out.top k3
      have hm : (T k * 65536 + hd (L k)) % 65536 = hd (L k) := by omega
      have hli := a_list A0 A1 A2 A3 A4 n0 n1 n2 6 c0 c1 c2 c3 c4 c t s k k3 wr (hds T L) N (rd_below HH.out HKB.out.b) rfl (rd_below HN.out HKB.out.b) HI.out.len (by decide) (T k * 65536 + hd (L k)) (hds_at k3) (by omega) (by omega) (fun j hj => by have := HI.out.nin j hj; omega)
      rw [hm] at hli
      clear hx1
      go_upto_region 6 with (go_at_call 31; (with_reducible refine hli.mono ?_); rintro e w5 ⟨A9, n9, c9, er, rfl, hb5, hor⟩)
      obtain ⟨rfl, hown⟩ := lst_some (Inv.list HI.out k3) hor
      have hn9 : n9 = (L k).length := by
        obtain ⟨A, cap, e, _⟩ := hown
        injection e with e1 e2 e3
        rw [e2, List.length_map]
      subst hn9
      have hlm : (L k).length ≤ 9223372036854775807 := by
        obtain ⟨A, cap, e, h1, h2, _⟩ := hown
        rw [List.length_map] at h1
        unfold maxLen at h2
        omega
      have HO := Lib.hid hown
      have HKB5 := Lib.hid (HKB.out.below hb5)
      have hgcl : gc < wr.heap.size := HKB.out.c.lt
      obtain ⟨B9, hB9⟩ : ∃ B9, wr.heap.size = B9 := ⟨_, rfl⟩
      rw [hB9] at HO hgcl
      clear hown hor hb5 hli hm d0 d1 d2 d3 d4 d5 d6 d7 hB9 HKB
      go_wp2_with fail
      go_loopw [13] (fun jv wr => ∃ j : Nat, j ≤ (L k).length ∧ jv = .int .i64 j ∧ KB w gx ga gz gc IB p zs (pre L k ++ (L k).take j) wr ∧ OwnQ wr B9 (.slice A9 (L k).length c9) ((L k).map fun b : Nat => (b : Int))) (fun jv _ => (L k).length - (intOf jv).toNat)
      case atStart => exact ⟨0, by omega, rfl, by rw [List.take_zero, List.append_nil]; exact HKB5.out, HO.out⟩
      case round =>
        obtain ⟨j, hj, rfl, hkb, ho⟩ := hrel
        have HKB := Lib.hid hkb
        have HO2 := Lib.hid ho
        clear hkb ho HKB5 HO
        by_cases hjl : j < (L k).length
        · have hjI : (j : Int) < ((L k).length : Nat) := by omega
          obtain ⟨bk, hbk⟩ : ∃ bk, (L k)[j] = bk := ⟨_, rfl⟩
          have hmem : bk ∈ L k := hbk ▸ List.getElem_mem hjl
          obtain ⟨hb6, hbc⟩ := HI.out.lcl k k3 bk hmem
          have HTK := Lib.hid (take_snoc hjl)
          obtain ⟨g9, off, cap9, e9, _, hlt9, hc9⟩ := HO2.out.cell (by rw [List.length_map]; omega)
          injection e9 with e9 e10 e11
          subst e9
          clear e10 e11
          have hcw := hc9 j bk (by rw [List.getElem?_map, List.getElem?_eq_getElem hjl, hbk]; rfl)
          rw [hbk] at HTK
          have hbI : decide ((bk : Int) < 0) = false := decide_eq_false (by omega)
          have hbJ : decide (6 ≤ (bk : Int)) = false := decide_eq_false (by omega)
          have hbU : (bk : Int) < 6 := by omega
          have hcc : ∀ W, Calls Try.prog 16 #[cfgV hq, .int .i64 bk] W fun e w' => e = .returned (.int .i64 k) ∧ Below W.heap.size W w' := fun W => by
            have h := LayF.r_class hq bk W
            rw [cl_of hb6, hbc] at h
            exact h
          have hs0 : (fun W : World => W.cell? ⟨g9, off + j, none⟩ = some (.int .i64 bk)) wr.drew := hcw
          clear hc9 hbk hmem
          go_upto_region 11 with (fail)
          go_region_held3 (fun W : World => W.cell? ⟨g9, off + j, none⟩ = some (.int .i64 bk)) (first | (with_reducible exact hs0) | (with_reducible assumption)) (first
            | (go_at_call 14; (with_reducible refine (hla _).mono ?_); rintro e x1 ⟨rfl, hx1⟩; have hq1 : x1.cell? ⟨g9, off + j, none⟩ = some (.int .i64 bk) := (World.cell?_of_block (hx1.block g9 hlt9)).trans hcw)
            | (go_at_call 16; (with_reducible refine (hcc _).mono ?_); rintro e x2 ⟨rfl, hx2⟩; have hq2 : x2.cell? ⟨g9, off + j, none⟩ = some (.int .i64 bk) := (World.cell?_of_block (hx2.block g9 (Nat.lt_of_lt_of_le hlt9 hx1.size))).trans hq1))
          have hxx : Below wr.heap.size wr x2 := Below.trans (below_drewN (Below.refl wr.heap.size wr) 1) (show Below wr.heap.size wr.drew x2 from hx1.trans (hx2.mono hx1.size))
          have HKB6 := Lib.hid (HKB.out.below hxx)
          have HO6 := Lib.hid (HO2.out.below hxx)
          have hcnt := HKB6.out.at_ hb6
          have hfz := HKB6.out.c.frozen bk
          have hle := pre_le L held p k3 j bk
          rw [HI.out.one bk hb6] at hle
          obtain ⟨m, hmm⟩ : ∃ m, (pre L k ++ (L k).take j).count bk = m := ⟨_, rfl⟩
          rw [hmm] at hcnt hle
          have hwm : IntKind.i64.wrap ((m : Int) + 1) = (m : Int) + 1 := IntWalk.i64_in _ (by omega)
          have hq3 := hq2
          have HMM := Lib.hid hmm
          clear hcc hs0 hq1 hx1 hx2 hxx hcw HKB HO2 hmm
          go_wp2_with fail
          go_roundw
          case rel => exact ⟨j + 1, by omega, by go_num, by have h := HKB6.out.more hdist hb6; rw [HMM.out, List.append_assoc, ← HTK.out] at h; exact h, HO6.out.fr (P := fun x => x = gc) ((Fr.refl (fun x => x = gc) x2).set_ ⟨gc, bk, none⟩ (.inl rfl) _) (fun x hx e => by have := hx.1; omega)⟩
          case measure => simp [intOf]; omega
        · obtain rfl : j = (L k).length := by omega
          have HTK := Lib.hid (List.take_length (l := L k))
          go_wp2_with fail
          go_roundw
          case rel => exact ⟨k + 1, by omega, by go_num, by have h := HKB.out; rw [HTK.out] at h; exact h⟩
          case measure => simp [intOf]; omega
    · obtain rfl : k = 4 := by omega
      go_wp2_with fail
      go_loopw [14] (fun jv wr => ∃ j : Nat, j ≤ held.length ∧ jv = .int .i64 j ∧ KB w gx ga gz gc IB p zs (pre L 4 ++ held.take j) wr) (fun jv _ => held.length - (intOf jv).toNat)
      case atStart => exact ⟨0, by omega, rfl, by rw [List.take_zero, List.append_nil]; exact HKB.out⟩
      case round =>
        clear HKB
        obtain ⟨j, hj, rfl, hkb⟩ := hrel
        have HKB := Lib.hid hkb
        clear hkb
        by_cases hjl : j < held.length
        · have hjI : (j : Int) < (held.length : Nat) := by omega
          obtain ⟨bk, hbk⟩ : ∃ bk, held[j] = bk := ⟨_, rfl⟩
          have hmem : bk ∈ held := hbk ▸ List.getElem_mem hjl
          have hb6 := HI.out.hin bk hmem
          have HTK := Lib.hid (take_snoc hjl)
          rw [hbk] at HTK
          obtain ⟨pa, cap9, e9, hc9⟩ := HHd.out
          obtain ⟨g9, off, rfl, hcw⟩ := hc9 j bk (by rw [List.getElem?_map, List.getElem?_eq_getElem hjl, hbk]; rfl)
          injection e9 with e9 e10 e11
          subst e9
          clear e10 e11
          have hg9 : g9 < w.heap.size := World.block_lt_of_cell? _ _ hcw
          have hq2 : wr.cell? ⟨g9, off + j, none⟩ = some (.int .i64 bk) := (World.cell?_of_block (HKB.out.b.block g9 hg9)).trans hcw
          have hbI : decide ((bk : Int) < 0) = false := decide_eq_false (by omega)
          have hbJ : decide (6 ≤ (bk : Int)) = false := decide_eq_false (by omega)
          have hbU : (bk : Int) < 6 := by omega
          have hcnt := HKB.out.at_ hb6
          have hfz := HKB.out.c.frozen bk
          have hle := held_le L held p j bk
          rw [HI.out.one bk hb6] at hle
          obtain ⟨m, hmm⟩ : ∃ m, (pre L 4 ++ held.take j).count bk = m := ⟨_, rfl⟩
          rw [hmm] at hcnt hle
          have hwm : IntKind.i64.wrap ((m : Int) + 1) = (m : Int) + 1 := IntWalk.i64_in _ (by omega)
          have HMM := Lib.hid hmm
          clear hmm hc9 hcw hbk hmem
          go_wp2_with fail
          go_roundw
          case rel => exact ⟨j + 1, by omega, by go_num, by have h := HKB.out.more hdist hb6; rw [HMM.out, List.append_assoc, ← HTK.out] at h; exact h⟩
          case measure => simp [intOf]; omega
        · obtain rfl : j = held.length := by omega
          have HTK := Lib.hid (List.take_length (l := held))
          have HKB2 : Hid (KB w gx ga gz gc IB p zs (pre L 4 ++ held ++ prp p 0) wr) := Lib.hid (by have h := HKB.out; rw [HTK.out] at h; rw [show prp p 0 = [] from rfl, List.append_nil]; exact h)
          clear HKB
          go_wp2_with fail
          go_loopw [15] (fun tv wr => ∃ t : Nat, t ≤ 4 ∧ tv = .int .i64 t ∧ KB w gx ga gz gc IB p zs (pre L 4 ++ held ++ prp p t) wr) (fun tv _ => 4 - (intOf tv).toNat)
          case atStart => exact ⟨0, by omega, rfl, HKB2.out⟩
          case round =>
            clear HKB2
            obtain ⟨t, ht4, rfl, hkb⟩ := hrel
            have HKB := Lib.hid hkb
            clear hkb
            by_cases htl : t < 4
            · have htI : (t : Int) < 4 := by omega
              have t3 : t ≤ 3 := by omega
              have hpt := HPV.out t t3 wr HKB.out.a
              have hzt : wr.cell? ⟨gz, t, none⟩ = some (.int .i64 (zs t)) := arr_at (f := fun t => .int .i64 (zs t)) HKB.out.z t3
              rcases ho : p t with _ | ⟨g, st, cc, x, n⟩ | ⟨g, st, cc, bk, x⟩
              · have hpt2 : wr.cell? ⟨ga, t, none⟩ = some (.pointer none) := by rw [hpt, ho]; rfl
                clear hpt hzt
                go_wp2_with fail
                go_roundw
                case rel => exact ⟨t + 1, by omega, by go_num, by rw [show prp p (t + 1) = prp p t ++ pb (p t) from rfl, ho, show pb .idle = [] from rfl, List.append_nil]; exact HKB.out⟩
                case measure => simp [intOf]; omega
              · have hpt2 : wr.cell? ⟨ga, t, none⟩ = some (.pointer none) := by rw [hpt, ho]; rfl
                clear hpt hzt
                go_wp2_with fail
                go_roundw
                case rel => exact ⟨t + 1, by omega, by go_num, by rw [show prp p (t + 1) = prp p t ++ pb (p t) from rfl, ho, show pb (.pop g st cc x n) = [] from rfl, List.append_nil]; exact HKB.out⟩
                case measure => simp [intOf]; omega
              · have hpt2 : wr.cell? ⟨ga, t, none⟩ = some (.pointer (some ⟨g, 0, none⟩)) := by rw [hpt, ho]; rfl
                have hb6 : bk < 6 := by have h := HI.out.ok t t3; rw [ho] at h; exact h.2.1
                have hzb := HZ.out t t3 g st cc bk x ho
                rw [hzb] at hzt
                have hbI : (0 : Int) ≤ bk := by omega
                have hbU : (bk : Int) < 6 := by omega
                have hcnt := HKB.out.at_ hb6
                have hfz := HKB.out.c.frozen bk
                have hle := prp_le L held p ht4 bk
                rw [HI.out.one bk hb6] at hle
                obtain ⟨m, hmm⟩ : ∃ m, (pre L 4 ++ held ++ prp p t).count bk = m := ⟨_, rfl⟩
                rw [hmm] at hcnt hle
                have hwm : IntKind.i64.wrap ((m : Int) + 1) = (m : Int) + 1 := IntWalk.i64_in _ (by omega)
                have HMM := Lib.hid hmm
                clear hmm hpt hzb
                go_wp2_with fail
                go_roundw
                case rel => exact ⟨t + 1, by omega, by go_num, by have h := HKB.out.more hdist hb6; rw [HMM.out, List.append_assoc] at h; rw [show prp p (t + 1) = prp p t ++ pb (p t) from rfl, ho]; exact h⟩
                case measure => simp [intOf]; omega
            · obtain rfl : t = 4 := by omega
              have H1 : Hid (∀ b, b < 6 → wr.cell? ⟨gc, b, none⟩ = some (.int .i64 1)) := Lib.hid fun b hb => by
                have h := HKB.out.at_ hb
                rw [tot_of, HI.out.one b hb] at h
                exact h
              have HBW := Lib.hid HKB.out.b
              clear HKB
              go_wp2_with fail
              go_loopw [16] (fun bv wq => ∃ b : Nat, b ≤ 6 ∧ bv = .int .i64 b ∧ wq = wr) (fun bv _ => 6 - (intOf bv).toNat)
              case atStart => exact ⟨0, by omega, rfl, rfl⟩
              case round =>
                obtain ⟨b, hb, rfl, rfl⟩ := hrel
                by_cases hbl : b < 6
                · have hbI : (b : Int) < 6 := by omega
                  have hcb := H1.out b hbl
                  go_wp2_with fail
                  go_roundw
                  case rel => exact ⟨b + 1, by omega, by go_num, by first | rfl | trivial⟩
                  case measure => simp [intOf]; omega
                · obtain rfl : b = 6 := by omega
                  go_wp2_with fail
                  go_ret
                  exact ⟨rfl, HBW.out⟩
end Go.Proofs.Ytpnkjdamgkaonaa.FreK
