/-
  Contract of the statements' Text: some text of bounded length.
-/
import Derived.Test.YtlgecejaijcjgaaGreatDoorAsmL
import Derived.Test.YtlgecejaijcjgaaGreatDoorFrame
namespace Go.Proofs.YtlgecejaijcjgaaGreatDoor.AsmX
open Go.ChangeShapes Go.WideShapes Go.ChangeAt Go.RowKit
open PlainT IsaE IsaS BlkW IsaA IsaB IsaF IsaP IsaQ IsaX IsaL AsmA AsmB IsaR MapW AsmC AsmE AsmF AsmT Bld DisA DisB DisC AsmL LawFrame
open AsmS hiding nameC
set_option linter.unusedVariables false
set_option maxHeartbeats 1000000
def parts : List (List UInt8) := [[97, 58], [98, 49, 58, 32], [32, 99, 95, 32, 58], [120, 95, 121, 58], [106, 117, 109, 112, 32, 97], [122, 101, 114, 111, 32, 114, 49, 32, 98, 49], [110, 111, 110, 122, 101, 114, 111, 32, 114, 57, 32, 97], [122, 101, 114, 111, 32, 114, 50, 32, 120, 95, 121], [106, 117, 109, 112, 32, 51], [99, 111, 110, 115, 116, 32, 114, 49, 32, 53], [97, 100, 100, 32, 114, 49, 32, 114, 50, 32, 114, 51], [98, 101, 103, 105, 110, 32, 50], [99, 111, 109, 109, 105, 116], [116, 114, 101, 97, 100, 32, 114, 48, 32, 114, 49, 32, 50], [35, 32, 97, 108, 108], [], [32, 32], [99, 111, 110, 115, 116, 32, 114, 49], [110, 111, 112, 32, 35, 32, 97, 58], [106, 117, 109, 112, 32, 65], [108, 49, 58], [122, 101, 114, 111, 32, 114, 55, 32, 108, 49], [110, 111, 110, 122, 101, 114, 111, 32, 114, 48, 32, 110, 111, 119, 104, 101, 114, 101], [98, 101, 103, 105, 110, 32, 57]]
def partCells : Array Value := (parts.map fun p => Value.string (mk p)).toArray
theorem part_at (v : Nat) (hv : v < 24) : ∃ p : ByteArray, partCells[v]? = some (.string p) ∧ p.size ≤ 18 := by
  have h : ∀ v < 24, ((parts.getD v []).length ≤ 18) := by decide
  refine ⟨mk (parts.getD v []), ?_, by rw [mk_len]; exact h v hv⟩
  unfold partCells
  have hl : v < parts.length := hv
  simp [List.getD_eq_getElem?_getD, List.getElem?_eq_getElem hl]
set_option maxRecDepth 100000 in
theorem k_text (A : Option Addr) (n c : Nat) (zs : List Int) (hn : n ≤ 40) (w : World) (hR : Ints .i64 w A n zs) :
    Calls Tryz.prog 13 #[.slice A n c] w fun e w' => (∃ s : ByteArray, e = .returned (.string s) ∧ s.size ≤ 19 * n) ∧ Below w.heap.size w w' := by
  have hm := Mem.new w 9 partCells
  have hb0 := below_new w (.cells partCells 9)
  go_enter Tryz.func13, Tryz.ntmps13
  go_wp2
  go_loopw [4, 5] (fun v i wr => ∃ (k : Nat) (s : ByteArray), k ≤ n ∧ i = .int .i64 k ∧ v = .string s ∧ s.size ≤ 19 * k ∧ Mem wr w.heap.size 9 partCells ∧ Below w.heap.size w wr) (fun _ i _ => n - (intOf i).toNat)
  case atStart => exact ⟨0, ⟨#[]⟩, by omega, rfl, rfl, by decide, hm, hb0⟩
  case round =>
    obtain ⟨k, s, hk, rfl, rfl, hs, hm, hb⟩ := hrel
    by_cases hlt : k < n
    · obtain ⟨hl, hwf, hcl⟩ := hR
      obtain ⟨b, o, rfl, hbl, hc⟩ := hcl (by omega)
      have hz := (hb.cell (p := ⟨b, o + k, none⟩) hbl).trans (hc k hlt)
      have hw := hwf (zs.getD k 0) (by rw [List.getD_eq_getElem?_getD, List.getElem?_eq_getElem (by omega)]; exact List.getElem_mem _)
      generalize zs.getD k 0 = z at hz hw
      have hw2 : -9223372036854775808 ≤ z ∧ z ≤ 9223372036854775807 := by simpa [Lit.wf, IntKind.min, IntKind.max, IntKind.signed, IntKind.bits] using hw
      have hv := pl_in z 24 (by omega) (by omega)
      obtain ⟨v, hpl⟩ : ∃ v, pl z 24 = v := ⟨_, rfl⟩
      rw [hpl] at hv
      obtain ⟨v, rfl⟩ := Int.eq_ofNat_of_zero_le hv.1
      have hv24 : v < 24 := by omega
      obtain ⟨p, hp, hpl2⟩ := part_at v hv24
      have hpc := (hm.cell v).trans hp
      have HP := Lib.hid hpl
      clear hpl hv hp hc hcl hwf hw
      go_wp2_with (go_at_call 15; (with_reducible refine (k_place z 24 _ (by omega) (by omega) HP.out _).mono ?_); rintro e wn ⟨rfl, rfl⟩)
      have hu := pl_in (z.tdiv 24) 20 (by omega) (by omega)
      obtain ⟨u, hpu⟩ : ∃ u, pl (z.tdiv 24) 20 = u := ⟨_, rfl⟩
      rw [hpu] at hu
      refine (k_place (z.tdiv 24) 20 u (by omega) (by omega) hpu _).mono ?_
      rintro e wn ⟨rfl, rfl⟩
      have hsz : (s ++ p).size ≤ 19 * k + 18 := by rw [ByteArray.size_append]; omega
      have hsz2 : (s ++ p ++ ⟨#[10]⟩).size ≤ 19 * (k + 1) := by rw [ByteArray.size_append]; show (s ++ p).size + 1 ≤ _; omega
      clear hpu hw2 hz hpc HP hpl2
      generalize s ++ p = sp at *
      by_cases hu0 : 0 < u
      · go_wp2
        go_round
        case rel => exact ⟨k + 1, _, by omega, by go_num, rfl, hsz2, hm, hb⟩
        case measure => simp [intOf]; omega
      · go_wp2
        go_round
        case rel => exact ⟨k + 1, sp, by omega, by go_num, rfl, by omega, hm, hb⟩
        case measure => simp [intOf]; omega
    · go_wp2
      go_ret
      exact ⟨⟨s, rfl, by omega⟩, hb⟩
end Go.Proofs.YtlgecejaijcjgaaGreatDoor.AsmX
