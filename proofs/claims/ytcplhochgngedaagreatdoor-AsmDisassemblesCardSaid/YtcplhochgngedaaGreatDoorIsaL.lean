/-
  Contracts of the functions of the statements of layer 3 that are no statements themselves (Place, Ints, awake, near, text).
-/
import Derived.Test.YtcplhochgngedaaGreatDoorIsaX
import Derived.Lib.ItoaLen
namespace Go.Proofs.YtcplhochgngedaaGreatDoor.IsaL
open Go.ChangeShapes Go.WideShapes Go.ChangeAt Go.RowKit
open PlainT IsaE IsaS BlkW IsaA IsaB IsaF IsaP IsaQ IsaX
set_option linter.unusedVariables false
set_option maxHeartbeats 1000000
set_option maxRecDepth 100000
/-! ### Place. -/
/-- What Place gives. -/
def pl (a m : Int) : Int := wrap64 ((IntKind.u64.wrap a).tmod m)
theorem pl_in (a m : Int) (h0 : 0 < m) (h1 : m ≤ 1000) : 0 ≤ pl a m ∧ pl a m ≤ m - 1 := by
  have hu : 0 ≤ IntKind.u64.wrap a := (bounds_u64 (wf_wrap .u64 a)).1
  unfold pl
  rw [Int.tmod_eq_emod_of_nonneg hu]
  have a0 := Int.emod_nonneg (IntKind.u64.wrap a) (by omega : m ≠ 0)
  have a1 := Int.emod_lt_of_pos (IntKind.u64.wrap a) h0
  rw [IntWalk.wrap64_in _ (by omega)]
  omega
theorem k_place (a m v : Int) (h0 : 0 < m) (h1 : m ≤ 1000) (hv : pl a m = v) (w : World) : Calls Tryz.prog 14 #[.int .i64 a, .int .i64 m] w fun e w' => e = .returned (.int .i64 v) ∧ w = w' := by
  have hw : IntKind.u64.wrap m = m := Int.emod_eq_of_lt (by omega) (by show m < 18446744073709551616; omega)
  have hv2 : wrap64 ((IntKind.u64.wrap a).tmod m) = v := hv
  clear hv
  go_enter Tryz.func14, Tryz.ntmps14
  go_wp2
  go_ret
  exact ⟨by rw [← hv2]; rfl, rfl⟩

/-! ### Ints. -/
theorem drew_below (w : World) : Below w.heap.size w w.drew := ⟨rfl, rfl, rfl, Nat.le_refl _, fun _ _ => rfl⟩
/-! ### near. -/
theorem boxed_load (op a b c i : Int) : (.agg (boxed op a b c i) : Value) = ins op a b c i := rfl
/-! ### awake. -/
theorem awake_words : words ⟨#[97, 100, 100, 32, 114, 49, 32, 114, 50, 32, 114, 51]⟩ = [⟨#[97, 100, 100]⟩, ⟨#[114, 49]⟩, ⟨#[114, 50]⟩, ⟨#[114, 51]⟩] := by decide +kernel
theorem awake_parse : parseQ ⟨#[97, 100, 100, 32, 114, 49, 32, 114, 50, 32, 114, 51]⟩ = some (3, ⟨1, 2, 3, 0⟩) := by
  unfold parseQ
  rw [awake_words]
  rfl
theorem awake_parseE : parseE ⟨#[97, 100, 100, 32, 114, 49, 32, 114, 50, 32, 114, 51]⟩ = 0 := by
  unfold parseE
  rw [awake_words]
  rfl
theorem awake_format : formatV 7 0 0 0 2 = ⟨#[98, 101, 103, 105, 110, 32, 50]⟩ := by
  have e : Lib.itoa 2 = [50] := by
    unfold Lib.itoa
    rw [if_neg (by decide), Lib.decDigits, dif_pos (by decide)]
    rfl
  unfold formatV
  rw [if_pos (by decide +kernel)]
  unfold joinB wordsV
  rw [show letters (Int.toNat 7) = [110] from rfl]
  simp only [List.map_cons, List.map_nil, operB, operL, if_true, fldI]
  simp only [show ¬ ((110 : UInt8) = 97) by decide, show ¬ ((110 : UInt8) = 98) by decide, show ¬ ((110 : UInt8) = 99) by decide, if_false, e]
  rfl
theorem below_trans2 {w a b : World} (h : Below w.heap.size w a) (k : Below a.heap.size a b) : Below w.heap.size w b := h.trans (k.mono h.size)
theorem str_at (L : List (List UInt8)) (hb : ∀ x ∈ L, x.length ≤ 20) (k : Nat) (hk : k < L.length) : ∃ s : ByteArray, (IsaE.strs L).toArray[k]? = some (.string s) ∧ s.size ≤ 20 := by
  refine ⟨⟨(L[k]).toArray⟩, ?_, ?_⟩
  · unfold IsaE.strs
    simp [List.getElem?_map, List.getElem?_eq_getElem hk]
  · have := hb _ (List.getElem_mem hk)
    show (L[k]).toArray.size ≤ 20
    simpa using this
theorem mem_at {w : World} {g : Nat} {t : TypeId} {cs : Array Value} {v : Value} {k : Nat} (h : Mem w g t cs) (hv : cs[k]? = some v) : w.cell? ⟨g, k, none⟩ = some v := by
  rw [h.cell, hv]
theorem pl_nat (a m : Int) (h0 : 0 < m) (h1 : m ≤ 1000) : ∃ v : Nat, wrap64 ((IntKind.u64.wrap a).tmod m) = (v : Int) ∧ (v : Int) < m := by
  have := pl_in a m h0 h1
  refine ⟨(pl a m).toNat, ?_, ?_⟩
  · show pl a m = _
    omega
  · omega
end Go.Proofs.YtcplhochgngedaaGreatDoor.IsaL
