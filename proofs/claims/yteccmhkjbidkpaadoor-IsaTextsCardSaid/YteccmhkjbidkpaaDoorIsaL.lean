/-
  Contracts of the functions of the statements of layer 3 that are no statements themselves (Place, Ints, awake, near, text).
-/
import Derived.Test.YteccmhkjbidkpaaDoorIsaX
import Derived.Lib.ItoaLen
namespace Go.Proofs.YteccmhkjbidkpaaDoor.IsaL
open Go.ChangeShapes Go.WideShapes Go.ChangeAt Go.RowKit
open PlainT IsaE IsaS BlkW IsaA IsaB IsaF IsaP IsaQ IsaX
set_option linter.unusedVariables false
set_option maxHeartbeats 1000000
set_option maxRecDepth 100000

/-! ### Place. -/
/-- What Place gives. -/
def pl (a m : Int) : Int := wrap64 ((IntKind.u64.wrap a).tmod m)
theorem pl_in (a m : Int) (h0 : 0 < m) (h1 : m ≤ 1000) : 0 ≤ pl a m ∧ pl a m ≤ m - 1 := by
  have hu : 0 ≤ IntKind.u64.wrap a := (bounds_u64 (wf_wrap .u64 a)).1
  unfold pl
  rw [Int.tmod_eq_emod_of_nonneg hu]
  have a0 := Int.emod_nonneg (IntKind.u64.wrap a) (by omega : m ≠ 0)
  have a1 := Int.emod_lt_of_pos (IntKind.u64.wrap a) h0
  rw [IntWalk.wrap64_in _ (by omega)]
  omega
theorem k_place (a m v : Int) (h0 : 0 < m) (h1 : m ≤ 1000) (hv : pl a m = v) (w : World) : Calls Tryd.prog 27 #[.int .i64 a, .int .i64 m] w fun e w' => e = .returned (.int .i64 v) ∧ w = w' := by
  have hw : IntKind.u64.wrap m = m := Int.emod_eq_of_lt (by omega) (by show m < 18446744073709551616; omega)
  have hv2 : wrap64 ((IntKind.u64.wrap a).tmod m) = v := hv
  clear hv
  go_enter Tryd.func27, Tryd.ntmps27
  go_wp2
  go_ret
  exact ⟨by rw [← hv2]; rfl, rfl⟩

/-! ### Ints. -/
theorem drew_below (w : World) : Below w.heap.size w w.drew := ⟨rfl, rfl, rfl, Nat.le_refl _, fun _ _ => rfl⟩
theorem k_ints (A B : Option Addr) (n m c d : Nat) (zs : List Int) (w : World) (hn : n ≤ c) (hc : c ≤ maxLen) (hA : Row w A n zs) (hB : Row w B m zs) :
    Calls Tryd.prog 13 #[.slice A n c, .slice B m d] w fun e w' => e = .returned (.bool true) ∧ Below w.heap.size w w' := by
  have hl := hA.1
  obtain rfl : m = n := by have := hB.1; have := hA.1; omega
  unfold maxLen at hc
  go_enter Tryd.func13, Tryd.ntmps13
  go_wp2
  go_loopw [5] (fun i wr => ∃ k : Nat, k ≤ m ∧ i = .int .i64 k ∧ Row wr A m zs ∧ Row wr B m zs ∧ Below w.heap.size w wr) (fun i _ => m - (intOf i).toNat)
  case atStart => exact ⟨0, by omega, rfl, hA, hB, Below.refl _ _⟩
  case round =>
    obtain ⟨k, hk, rfl, hRA, hRB, hbl⟩ := hrel
    clear hA hB
    by_cases hlt : k < m
    · obtain ⟨b1, o1, rfl, hb1, hc1⟩ := hRA.2 (by omega)
      obtain ⟨b2, o2, rfl, hb2, hc2⟩ := hRB.2 (by omega)
      have h1 := hc1 k hlt
      have h2 := hc2 k hlt
      clear hc1 hc2
      generalize zs.getD k 0 = z at h1 h2
      go_wp2
      go_region
      all_goals
        go_wp2
        go_round
        case rel => exact ⟨k + 1, by omega, by go_num, hRA, hRB, hbl.trans (drew_below _ |>.mono hbl.size)⟩
        case measure => simp [intOf]; omega
    · go_wp2
      go_ret
      exact ⟨rfl, hbl⟩

/-! ### near. -/
theorem boxed_load (op a b c i : Int) : (.agg (boxed op a b c i) : Value) = ins op a b c i := rfl
theorem l_near (op a b c i o x y z n : Int) (ho : pl op 19 = o) (hx : pl a 9 = x) (hy : pl b 9 = y) (hz : pl c 9 = z) (hn : pl i 70 = n) (w : World) :
    Calls Tryd.prog 21 #[.int .i64 op, .int .i64 a, .int .i64 b, .int .i64 c, .int .i64 i] w fun e w' => e = .returned (ins o x y z (n - 2)) ∧ Below w.heap.size w w' := by
  have hi := pl_in i 70 (by omega) (by omega)
  rw [hn] at hi
  unfold pl at ho hx hy hz hn
  go_enter Tryd.func21, Tryd.ntmps21
  go_wp2
  refine bodyPost_ret (v := ins o x y z (n - 2)) ?_ rfl ⟨rfl, ?_⟩
  · simp [results, Tryd.results21, go_sem]
  · exact below_new _ _

/-! ### awake. -/
theorem awake_words : words ⟨#[97, 100, 100, 32, 114, 49, 32, 114, 50, 32, 114, 51]⟩ = [⟨#[97, 100, 100]⟩, ⟨#[114, 49]⟩, ⟨#[114, 50]⟩, ⟨#[114, 51]⟩] := by decide +kernel
theorem awake_parse : parseQ ⟨#[97, 100, 100, 32, 114, 49, 32, 114, 50, 32, 114, 51]⟩ = some (3, ⟨1, 2, 3, 0⟩) := by
  unfold parseQ
  rw [awake_words]
  rfl
theorem awake_parseE : parseE ⟨#[97, 100, 100, 32, 114, 49, 32, 114, 50, 32, 114, 51]⟩ = 0 := by
  unfold parseE
  rw [awake_words]
  rfl
theorem awake_format : formatV 7 0 0 0 2 = ⟨#[98, 101, 103, 105, 110, 32, 50]⟩ := by
  have e : Lib.itoa 2 = [50] := by
    unfold Lib.itoa
    rw [if_neg (by decide), Lib.decDigits, dif_pos (by decide)]
    rfl
  unfold formatV
  rw [if_pos (by decide +kernel)]
  unfold joinB wordsV
  rw [show letters (Int.toNat 7) = [110] from rfl]
  simp only [List.map_cons, List.map_nil, operB, operL, if_true, fldI]
  simp only [show ¬ ((110 : UInt8) = 97) by decide, show ¬ ((110 : UInt8) = 98) by decide, show ¬ ((110 : UInt8) = 99) by decide, if_false, e]
  rfl
theorem below_trans2 {w a b : World} (h : Below w.heap.size w a) (k : Below a.heap.size a b) : Below w.heap.size w b := h.trans (k.mono h.size)
theorem l_awake (w : World) (h : Env w) : Calls Tryd.prog 20 #[] w fun e w' => e = .returned (.bool true) ∧ Below w.heap.size w w' := by
  have HP := Lib.hid awake_parse
  have HE := Lib.hid awake_parseE
  have HF := Lib.hid awake_format
  have i0 : InInt 0 := by unfold InInt; omega
  have i2 : InInt 2 := by unfold InInt; omega
  have hc7 : chk 7 0 0 0 2 = 0 := by decide +kernel
  have hc18 : chk 18 0 0 0 0 = 10 := by decide +kernel
  have HC7 := Lib.hid hc7
  have HC18 := Lib.hid hc18
  clear hc7 hc18
  go_enter Tryd.func20, Tryd.ntmps20
  go_wp2_with fail
  refine (a_parse _ _ h).mono ?_
  rintro e w1 ⟨hb1, rfl⟩
  rw [HP.out, HE.out]
  have h1 := h.below hb1
  unfold insR
  dsimp only
  go_wp2_with fail
  refine (a_format _ _ _ _ _ i0 i0 i0 i2 _ (h1.alloc _)).mono ?_
  rintro e w2 ⟨rfl, hb2⟩
  rw [HF.out, HC7.out]
  have h2 := (h1.alloc _).below hb2
  have hm := (Mem.new w1 23 #[.int .i64 3, .int .i64 1, .int .i64 2, .int .i64 3, .int .i64 0]).below hb2 (by simp)
  have hbw := below_trans2 (hb1.alloc hb1.size _) hb2
  obtain ⟨z0, z1, z2, z3, z4⟩ := boxed_cells (op := 3) (a := 1) (b := 2) (c := 3) (i := 0) hm
  clear hb1 hb2 hm
  go_wp2_with fail
  refine (a_check _ _ _ _ _ _ h2).mono ?_
  rintro e w3 ⟨rfl, hb3⟩
  rw [HC18.out]
  have hbx := below_trans2 hbw hb3
  clear hb3 hbw z0 z1 z2 z3 z4
  go_wp2
  go_ret
  exact ⟨rfl, hbx⟩

/-! ### text. -/
def nameL : List (List UInt8) := [[110, 111, 112], [99, 111, 110, 115, 116], [109, 111, 118, 101], [97, 100, 100], [102, 109, 105, 110], [106, 117, 109, 112], [122, 101, 114, 111], [98, 101, 103, 105, 110], [99, 111, 109, 109, 105, 116], [116, 114, 101, 97, 100], [112, 119, 114, 105, 116, 101], [97, 108, 108, 111, 99], [102, 114, 101, 101], [111, 117, 116, 99, 111, 109, 101], [116, 111, 105, 110, 116], [104, 97, 108, 116]]
def wordL : List (List UInt8) := [[114, 48], [114, 49], [114, 55], [114, 56], [48], [49], [45, 51], [49, 50], [57, 57], [45], [114], [57, 50, 50, 51, 51, 55, 50, 48, 51, 54, 56, 53, 52, 55, 55, 53, 56, 48, 56], [48, 48, 55]]
def NAMES : Array Value := #[.string ⟨#[110, 111, 112]⟩, .string ⟨#[99, 111, 110, 115, 116]⟩, .string ⟨#[109, 111, 118, 101]⟩, .string ⟨#[97, 100, 100]⟩, .string ⟨#[102, 109, 105, 110]⟩, .string ⟨#[106, 117, 109, 112]⟩, .string ⟨#[122, 101, 114, 111]⟩, .string ⟨#[98, 101, 103, 105, 110]⟩, .string ⟨#[99, 111, 109, 109, 105, 116]⟩, .string ⟨#[116, 114, 101, 97, 100]⟩, .string ⟨#[112, 119, 114, 105, 116, 101]⟩, .string ⟨#[97, 108, 108, 111, 99]⟩, .string ⟨#[102, 114, 101, 101]⟩, .string ⟨#[111, 117, 116, 99, 111, 109, 101]⟩, .string ⟨#[116, 111, 105, 110, 116]⟩, .string ⟨#[104, 97, 108, 116]⟩]
def WORDS : Array Value := #[.string ⟨#[114, 48]⟩, .string ⟨#[114, 49]⟩, .string ⟨#[114, 55]⟩, .string ⟨#[114, 56]⟩, .string ⟨#[48]⟩, .string ⟨#[49]⟩, .string ⟨#[45, 51]⟩, .string ⟨#[49, 50]⟩, .string ⟨#[57, 57]⟩, .string ⟨#[45]⟩, .string ⟨#[114]⟩, .string ⟨#[57, 50, 50, 51, 51, 55, 50, 48, 51, 54, 56, 53, 52, 55, 55, 53, 56, 48, 56]⟩, .string ⟨#[48, 48, 55]⟩]
theorem str_at (L : List (List UInt8)) (hb : ∀ x ∈ L, x.length ≤ 20) (k : Nat) (hk : k < L.length) : ∃ s : ByteArray, (IsaE.strs L).toArray[k]? = some (.string s) ∧ s.size ≤ 20 := by
  refine ⟨⟨(L[k]).toArray⟩, ?_, ?_⟩
  · unfold IsaE.strs
    simp [List.getElem?_map, List.getElem?_eq_getElem hk]
  · have := hb _ (List.getElem_mem hk)
    show (L[k]).toArray.size ≤ 20
    simpa using this
theorem name_at (k : Nat) (hk : k < 16) : ∃ s : ByteArray, NAMES[k]? = some (.string s) ∧ s.size ≤ 20 := str_at nameL (by decide) k hk
theorem word_at (k : Nat) (hk : k < 13) : ∃ s : ByteArray, WORDS[k]? = some (.string s) ∧ s.size ≤ 20 := str_at wordL (by decide) k hk
theorem mem_at {w : World} {g : Nat} {t : TypeId} {cs : Array Value} {v : Value} {k : Nat} (h : Mem w g t cs) (hv : cs[k]? = some v) : w.cell? ⟨g, k, none⟩ = some v := by
  rw [h.cell, hv]
theorem pl_nat (a m : Int) (h0 : 0 < m) (h1 : m ≤ 1000) : ∃ v : Nat, wrap64 ((IntKind.u64.wrap a).tmod m) = (v : Int) ∧ (v : Int) < m := by
  have := pl_in a m h0 h1
  refine ⟨(pl a m).toNat, ?_, ?_⟩
  · show pl a m = _
    omega
  · omega
theorem l_text (op a b c i sp : Int) (w : World) : Calls Tryd.prog 26 #[.int .i64 op, .int .i64 a, .int .i64 b, .int .i64 c, .int .i64 i, .int .i64 sp] w fun e w' => ∃ s, e = .returned (.string s) ∧ Below w.heap.size w w' := by
  obtain ⟨o, ho, ho2⟩ := pl_nat op 16 (by omega) (by omega)
  obtain ⟨q, hq, hq2⟩ := pl_nat sp 5 (by omega) (by omega)
  obtain ⟨n0, hn0, hl0⟩ := name_at o (by omega)
  go_enter Tryd.func26, Tryd.ntmps26
  have hcell : ((w.alloc (.cells NAMES 9)).alloc (.cells WORDS 9)).cell? ⟨w.heap.size, o, none⟩ = some (.string n0) := mem_at (((Mem.new w 9 NAMES)).below (below_new _ _) (by simp)) hn0
  unfold NAMES WORDS at hcell
  go_wp2
  go_loopw [15, 17] (fun x y wr => ∃ (k : Nat) (s : ByteArray), k ≤ 4 ∧ y = .int .i64 k ∧ x = .string s ∧ s.size ≤ 20 + 22 * k ∧ Mem wr (w.heap.size + 1) 9 WORDS ∧ Mem wr (w.heap.size + 2) 3 #[.int .i64 a, .int .i64 b, .int .i64 c, .int .i64 i] ∧ Below w.heap.size w wr) (fun x y _ => 4 - (intOf y).toNat)
  case atStart => exact ⟨0, n0, by omega, rfl, rfl, by omega, (mem_new1 w _ _ _).alloc _, mem_new2 w _ _ _ _, below_new3 _ _ _ _⟩
  case round =>
    obtain ⟨k, s, hk, rfl, rfl, hsz, hm1, hm2, hb⟩ := hrel
    clear hcell hn0
    by_cases h4 : k < 4
    · by_cases hkq : k < q
      · obtain ⟨z, hz⟩ : ∃ z : Int, (#[.int .i64 a, .int .i64 b, .int .i64 c, .int .i64 i] : Array Value)[k]? = some (.int .i64 z) := by
          have : k = 0 ∨ k = 1 ∨ k = 2 ∨ k = 3 := by omega
          rcases this with rfl | rfl | rfl | rfl <;> exact ⟨_, rfl⟩
        have hcz := mem_at hm2 hz
        obtain ⟨v, hv, hv2⟩ := pl_nat z 13 (by omega) (by omega)
        obtain ⟨x, hx, hxl⟩ := word_at v (by omega)
        have hcx := mem_at hm1 hx
        clear hz hx
        by_cases h7 : sp.tmod 7 = 0
        · have h7' : (sp.tmod 7 == 0) = true := by rw [beq_iff_eq]; exact h7
          clear h7
          go_wp2
          go_round
          case rel => exact ⟨k + 1, _, by omega, by go_num, rfl, by simp only [ByteArray.size_append]; show _ ≤ _; have e1 : (⟨#[32]⟩ : ByteArray).size = 1 := rfl; omega, hm1, hm2, hb⟩
          case measure => simp [intOf]; omega
        · have h7' : (sp.tmod 7 == 0) = false := by rw [beq_eq_false_iff_ne]; exact h7
          clear h7
          go_wp2
          go_round
          case rel => exact ⟨k + 1, _, by omega, by go_num, rfl, by simp only [ByteArray.size_append]; show _ ≤ _; have e1 : (⟨#[32]⟩ : ByteArray).size = 1 := rfl; omega, hm1, hm2, hb⟩
          case measure => simp [intOf]; omega
      · by_cases h11 : sp.tmod 11 = 0
        · have h11' : (sp.tmod 11 == 0) = true := by rw [beq_iff_eq]; exact h11
          clear h11
          go_wp2
          go_ret
          exact ⟨_, rfl, hb⟩
        · have h11' : (sp.tmod 11 == 0) = false := by rw [beq_eq_false_iff_ne]; exact h11
          clear h11
          go_wp2
          go_ret
          exact ⟨_, rfl, hb⟩
    · by_cases h11 : sp.tmod 11 = 0
      · have h11' : (sp.tmod 11 == 0) = true := by rw [beq_iff_eq]; exact h11
        clear h11
        go_wp2
        go_ret
        exact ⟨_, rfl, hb⟩
      · have h11' : (sp.tmod 11 == 0) = false := by rw [beq_eq_false_iff_ne]; exact h11
        clear h11
        go_wp2
        go_ret
        exact ⟨_, rfl, hb⟩
end Go.Proofs.YteccmhkjbidkpaaDoor.IsaL
