/-
  Texts on no machine: slices.Clone of integers and words, a slice without its first element, a slice cut behind all its elements, At and reads of a []int argument, a literal row, words of six records.
-/
import Derived.Test.YtpjbmbipkmpkhaaObjA
import Derived.Test.YtpjbmbipkmpkhaaLayK
import Derived.Lib.OwnBridge
namespace Go.Proofs.Ytpjbmbipkmpkhaa.ClnA
open Go.ChangeShapes Go.WideShapes Go.ChangeAt Go.RowKit
open LawFrame PlainT BlkW LayS LayA LayK CelS CelM CelP CelV CelN CelF LabD LabR LabP LabX LabN RsA ObjA
set_option linter.unusedVariables false
set_option maxHeartbeats 1000000
set_option maxRecDepth 100000

/-- append of a row that reads as xs to an empty one that is not nil. -/
theorem run_cloneK {k : IntKind} {T ts : TypeId} (hu : Try.prog.underlying ts = some (.slice T)) (hinf : ∃ i, Try.prog.info? T = some i ∧ i.zero = some (.int k 0) ∧ i.size = 1 ∧ i.bytes = 8) {w : World} {a : Addr} {n cap : Nat} {xs : List Int} (hs : RdS k w (.slice (some a) n cap) xs) (hl : xs.length ≤ 100000) :
    ∃ A c w1, (Builtin.append_ #[ts, ts] ts #[.slice (some ⟨w.heap.size, 0, none⟩) 0 0, .slice (some a) n cap]).run Try.prog (w.alloc (.cells #[] T)) = .ok (.slice A n c) w1 ∧ w1.ownsRow w.heap.size T 1 (.slice A n c) xs.length (xs.map (Value.int k)) ∧ n = xs.length ∧ Below w.heap.size w w1 := by
  obtain ⟨i0, hi, hz0, hz1, hz2⟩ := hinf
  obtain ⟨p, cap', e, h1, h2, hc⟩ := hs
  injection e with e1 e2 e3
  subst e1 e2 e3
  have hown : (w.alloc (.cells #[] T)).ownsRow w.heap.size T 1 (.slice (some ⟨w.heap.size, 0, none⟩) 0 0) 0 [] := World.ownsRow_made w #[] 0 (Nat.le_refl _) (by unfold maxLen; omega) rfl
  obtain ⟨v', w', hrun, hown', hgr, _⟩ := run_append_own (P := Try.prog) (w := w.alloc (.cells #[] T)) w.heap.size ts ts T i0 _ 1 8 hu hi hz0 hz1 hz2 rfl (by decide) _ 0 [] hown a xs.length cap (xs.map (Value.int k)) (by simp) (by
      intro j u hj
      rw [List.getElem?_map] at hj
      cases hx : xs[j]? with
      | none => rw [hx] at hj; cases hj
      | some y =>
        rw [hx] at hj
        injection hj with hj
        obtain ⟨g, o, e, hy⟩ := hc j y hx
        injection e with e
        subst e
        rw [← hj, add_off]
        have hg : g < w.heap.size := World.block_lt_of_cell? _ _ hy
        rw [← hy]
        exact World.cell?_of_block (BlkW.heap_alloc_old w _ g hg)) (by
      intro u hu
      obtain ⟨y, _, rfl⟩ := List.mem_map.1 hu
      rfl) (by unfold maxLen; omega) (by omega) (by rw [size_new]; omega)
  rw [Nat.zero_add] at hown'
  obtain ⟨A, c, rfl, _⟩ := own_slice hown'
  exact ⟨A, c, w', hrun, by simpa using hown', rfl, ((Below.refl _ w).alloc (Nat.le_refl _) _).grown hgr (by rw [size_new]; omega) (fun k hk => by simp [Value.ownBlock] at hk; omega)⟩
theorem info_i : ∃ i, Try.prog.info? TI = some i ∧ i.zero = some (.int .i64 0) ∧ i.size = 1 ∧ i.bytes = 8 := ⟨_, rfl, by kernel_rfl, by kernel_rfl, by kernel_rfl⟩
/-- slices.Clone of words. -/
theorem c_word (w : World) (v : Value) (xs : List Int) (hs : RdS .u64 w v xs) (hl : xs.length ≤ 100000) : Calls Try.prog 79 #[v] w fun e w' => ∃ A c, e = .returned (.slice A xs.length c) ∧ w'.ownsRow w.heap.size TU 1 (.slice A xs.length c) xs.length (xs.map (Value.int .u64)) ∧ Below w.heap.size w w' := by
  have hs' := hs
  obtain ⟨p, cap, rfl, h1, h2, hc⟩ := hs'
  cases p with
  | none =>
    have hx : xs = [] := by
      cases xs with
      | nil => rfl
      | cons x xs => obtain ⟨g, o, e, _⟩ := hc 0 x rfl; cases e
    subst hx
    clear hc hs h1 h2 hl
    have hnil : ∀ w : World, (binOp BinOp.eql TR (.slice none 0 cap) (.slice none 0 0)).run Try.prog w = .ok (.bool true) w := fun w => by kernel_rfl
    go_enter Try.func79, Try.ntmps79
    go_wp2
    go_ret
    exact ⟨none, 0, rfl, World.ownsRow_nil _ _ _ _, Below.refl _ _⟩
  | some a =>
    obtain ⟨A, c, w1, hrun, hown, _, hbel⟩ := run_cloneK (ts := TR) Try.underlying37 (info_parts info_u) hs hl
    have HO := Lib.hid hown
    have HB := Lib.hid hbel
    clear hown hbel hc hs h1 h2
    have hnil : ∀ w : World, (binOp BinOp.eql TR (.slice (some a) xs.length cap) (.slice none 0 0)).run Try.prog w = .ok (.bool false) w := fun w => by kernel_rfl
    go_enter Try.func79, Try.ntmps79
    go_wp2_with (at_builtin; refine wpList_append_run rfl _ _ _ rfl hrun (by rfl) (by rfl) ?_)
    go_ret
    exact ⟨A, c, rfl, HO.out, HB.out⟩
theorem same_of {n : Nat} {args : Array Value} {v : Value} (h : ∀ w, Calls Try.prog n args w fun e w' => e = .returned v ∧ w = w') (w : World) : Calls Try.prog n args w fun e w' => e = .returned v ∧ w' = w := (h w).mono fun _ _ k => ⟨k.1, k.2.symm⟩
/-- The slice without its first element, and what it reads as. -/
theorem tail_run {K : IntKind} {T ts : TypeId} (hu : Try.prog.underlying ts = some (.slice T)) (hz : ∀ wx : World, (sizeOf (Try.prog.elem ts)).run Try.prog wx = .ok 1 wx) (g o n c : Nat) (h1 : 1 ≤ n) (h2 : n ≤ c) :
    ∃ p, (∀ wx : World, (Instr.slice ts (.slice (some ⟨g, o, none⟩) n c) (some (.int .i64 1)) none none).run Try.prog wx = .ok (.slice p (n - 1) (c - 1)) wx) ∧ (Value.slice p (n - 1) (c - 1)).ownBlock = some g ∧
      ∀ (w : World) (x : Int) (xs : List Int), RdR K w (.slice (some ⟨g, o, none⟩) n c) (x :: xs) → RdR K w (.slice p (n - 1) (c - 1)) xs := by
  have he : Try.prog.elem ts = T := by simp [Program.elem, hu]
  refine ⟨if c = 1 then some ⟨g, o, none⟩ else some ⟨g, o + 1, none⟩, fun wx => ?_, ?_, fun w x xs h => ?_⟩
  · rw [run_slice_l (P := Try.prog) (w := wx) ts (some ⟨g, o, none⟩) n c (by rw [he]; exact hu) .i64 1 (by omega) (by omega), hz wx]
    simp only [Result.andThen, sliced]
    split
    · rename_i e
      rw [if_pos (by simpa using e)]
      rfl
    · rename_i e
      rw [if_neg (by simpa using e)]
      simp [Addr.add]
  · split <;> rfl
  · refine h.tail _ (fun hc => ?_) fun g' hg => ?_
    · rw [if_neg hc]
      simp [Addr.add]
    · split at hg <;> exact hg

/-- The slice cut behind all its elements. -/
theorem all_run {T ts : TypeId} (hu : Try.prog.underlying ts = some (.slice T)) (hz : ∀ wx : World, (sizeOf (Try.prog.elem ts)).run Try.prog wx = .ok 1 wx) (p : Option Addr) (n c : Nat) (h2 : n ≤ c) (wx : World) : (Instr.slice ts (.slice p n c) none (some (.int .i64 n)) none).run Try.prog wx = .ok (.slice p n c) wx := by
  have he : Try.prog.elem ts = T := by simp [Program.elem, hu]
  rw [run_slice_h (P := Try.prog) (w := wx) ts p n c (by rw [he]; exact hu) .i64 n (by omega) (by omega), hz wx]
  simp only [Result.andThen, sliced]
  cases p <;> simp [Addr.add]
theorem iat {w0 w : World} {A : Option Addr} {n : Nat} {z : List Int} (h : Ints .i64 w0 A n z) (ho : Below w0.heap.size w0 w) {k : Nat} (hk : k < n) : ∃ b off x, A = some ⟨b, off, none⟩ ∧ b < w0.heap.size ∧ w.cell? ⟨b, off + k, none⟩ = some (.int .i64 x) := by
  obtain ⟨h1, h2, h3⟩ := h
  obtain ⟨b, off, rfl, hb, hc⟩ := h3 (by omega)
  exact ⟨b, off, _, rfl, hb, (World.cell?_of_block (ho.block b hb)).trans (hc k hk)⟩
theorem iat_at {w0 w w' : World} {b off n k : Nat} {z : List Int} {x : Int} (h : Ints .i64 w0 (some ⟨b, off, none⟩) n z) (ho : Below w0.heap.size w0 w) (hk : k < n) (hx : w'.cell? ⟨b, off + k, none⟩ = some (.int .i64 x)) (ho' : Below w0.heap.size w0 w') : w.cell? ⟨b, off + k, none⟩ = some (.int .i64 x) := by
  obtain ⟨h1, h2, h3⟩ := h
  obtain ⟨b', off', e, hb, hc⟩ := h3 (by omega)
  injection e with e
  injection e with e1 e2
  subst e1 e2
  rw [← hx]
  exact (World.cell?_of_block (ho.block b hb)).trans (World.cell?_of_block (ho'.block b hb)).symm
theorem k_at {w0 w : World} {A : Option Addr} {n : Nat} {z : List Int} (c : Nat) (h : Ints .i64 w0 A n z) (ho : Below w0.heap.size w0 w) (k : Nat) : Calls Try.prog 21 #[.slice A n c, .int .i64 k] w fun e w' => ∃ v, e = .returned (.int .i64 v) ∧ w = w' := by
  by_cases hk : k < n
  · obtain ⟨b, off, x, rfl, hb, hc⟩ := iat h ho hk
    have hkI : (k : Int) < n := by omega
    clear h ho hb
    go_enter Try.func21, Try.ntmps21
    go_wp2
    go_ret
    exact ⟨x, rfl, rfl⟩
  · have hkI : (n : Int) ≤ k := by omega
    clear h ho hk
    go_enter Try.func21, Try.ntmps21
    go_wp2
    go_ret
    exact ⟨0, rfl, rfl⟩
/-- The words of the six ownership records. -/
def VOk (V : List Int) : Prop := V.length = 6 ∧ ∀ i, 0 ≤ V.getD i 0 ∧ V.getD i 0 ≤ 1000000
theorem vok_of {V : List Int} (h : V.length = 6) (h2 : ∀ x ∈ V, 0 ≤ x ∧ x ≤ 1000000) : VOk V := by
  refine ⟨h, fun i => ?_⟩
  rcases Nat.lt_or_ge i V.length with h1 | h1
  · rw [List.getD_eq_getElem?_getD, List.getElem?_eq_getElem h1]
    exact h2 _ (List.getElem_mem h1)
  · rw [List.getD_eq_getElem?_getD, List.getElem?_eq_none h1]
    decide
theorem rdr_lit (w : World) (xs : List Int) (hl : xs.length ≤ maxLen) : RdR .i64 (w.alloc (.cells (xs.map (Value.int .i64)).toArray TI)) (.slice (some ⟨w.heap.size, 0, none⟩) xs.length xs.length) xs :=
  ⟨⟨_, _, rfl, Nat.le_refl _, hl, fun j x hj => ⟨w.heap.size, 0, rfl, by
    rw [(Mem.new w TI (xs.map (Value.int .i64)).toArray).cell]
    rw [Nat.zero_add, List.getElem?_toArray, List.getElem?_map, hj]
    rfl⟩⟩, fun g hg => by
    have : w.heap.size = g := by simpa [Value.ownBlock] using hg
    rw [size_new]
    omega⟩
theorem upd2 {A : Int → List Int} {o : Nat} {x : Int} : upd A 2 o x 2 = (A 2).set o x := if_pos rfl
theorem upd_len3 {A : Int → List Int} {o : Nat} {x k : Int} (hk : k ≠ 2) : upd A 2 o x k = A k := if_neg hk
abbrev q6 : Cfg := ⟨6, 6, 0, 0, 0, 0, 0, 6, 6, 0, 0, 0, false⟩
theorem q6_valid : Valid q6 := by unfold Valid; decide
theorem begun_six {w0 w : World} {nt : Nat} {A : Int → List Int} {lo hi b rb : Nat} (h : BegunN w0 q6 nt A lo hi b rb w) : A 2 = [0, 0, 0, 0, 0, 0] ∧ (A 3).length = 1 ∧ (A 4).length = 1 ∧ (A 5).length = 1 := by
  obtain ⟨⟨n, no, hn, hno, rfl⟩, _⟩ := h
  have : no = 6 := by have : (6 : Int) = no := hno; omega
  subst this
  exact ⟨rfl, rfl, rfl, rfl⟩
theorem start_six (nt : Nat) (z : Int) (hz : z = nt) (t1 : 1 ≤ nt) (t2 : nt ≤ 16) (w : World) : Calls Try.prog 31 #[cfgV q6, .int .i64 z] w fun e w' => ∃ A lo hi b rb, e = .returned (.tuple #[pairV b rb, .bool true]) ∧ BegunN w q6 nt A lo hi b rb w' := by
  subst hz
  exact l_startn q6 (Lib.hid q6_valid) nt t1 t2 w
theorem vok_set {V : List Int} (h : VOk V) {o : Nat} {x : Int} (x0 : 0 ≤ x) (x1 : x ≤ 1000000) : VOk (V.set o x) := by
  refine ⟨by rw [List.length_set]; exact h.1, fun i => ?_⟩
  rw [List.getD_eq_getElem?_getD, List.getElem?_set]
  split
  · split
    · exact ⟨x0, x1⟩
    · decide
  · rw [← List.getD_eq_getElem?_getD]
    exact h.2 i
end Go.Proofs.Ytpjbmbipkmpkhaa.ClnA
