/-
  Toward strongtxmake's Script: one cell more at the end of a row of its own, whatever the row's type.
-/
import Derived.Test.YthnhmclnfgkppaaDoorPrgL
import Derived.Test.YthnhmclnfgkppaaDoorPrgC
import Derived.Test.YthnhmclnfgkppaaDoorOwnS
namespace Go.Proofs.YthnhmclnfgkppaaDoor.PrgZ
open Go.ChangeShapes Go.WideShapes Go.ChangeAt Go.RowKit
open PlainT IsaE IsaS BlkW LawFrame IsaA IsaB IsaF RefA PrgS PrgC PrgI PrgG PrgL Own OwnS
set_option linter.unusedVariables false
theorem push_g {te ts : TypeId} {z : Value} {bytes : Nat} (hu : Tryd.prog.underlying ts = some (.slice te)) (hinfo : (Tryd.prog.info? te).map (fun i => (i.zero, i.size, i.bytes)) = some (some z, 1, bytes)) (hz : z.cells.size = 1) (hb : bytes ≤ 24)
    {B : Nat} {w : World} (hB : B ≤ w.heap.size) {v : Value} {n : Nat} {xs : List Value} (hown : w.ownsRow B te 1 v n xs) (hn : n ≤ 300000) (x : Value) (hx : x.oneCell' = true) :
    ∃ A c w', (Builtin.append_ #[ts, ts] ts #[v, .slice (some ⟨w.heap.size, 0, none⟩) 1 1]).run Tryd.prog (w.alloc (.cells #[x] te)) = .ok (.slice A (n + 1) c) w' ∧
      w'.ownsRow B te 1 (.slice A (n + 1) c) (n + 1) (xs ++ [x]) ∧ Below B w w' ∧ (∀ t2 s2 v2 n2 xs2, t2 ≠ te → w.ownsRow B t2 s2 v2 n2 xs2 → w'.ownsRow B t2 s2 v2 n2 xs2) ∧ (∀ g2, g2 < w.heap.size → v.ownBlock ≠ some g2 → w'.heap[g2]? = w.heap[g2]?) := by
  obtain ⟨i0, hi, hz0, hz1, hz2⟩ := info_parts hinfo
  have hown1 := hown.alloc (.cells #[x] te)
  obtain ⟨v', w', hrun, hown', hgr, _⟩ := run_append_own (P := Tryd.prog) (w := w.alloc (.cells #[x] te)) B ts ts te i0 z 1 bytes hu hi hz0 hz1 hz2 hz (by decide) v n xs hown1 ⟨w.heap.size, 0, none⟩ 1 1 [x] rfl (cell_lit (W := w) (l := [x])) (by simpa using hx)
    (by unfold maxLen; omega) (Nat.le_trans (Nat.mul_le_mul_left _ hb) (by omega)) (by rw [size_new]; omega)
  obtain ⟨A, c, rfl, _⟩ := own_slice hown'
  refine ⟨A, c, w', hrun, hown', ((Below.refl B w).alloc hB _).grown hgr (by rw [size_new]; omega) (fun k hk => (own_row hown1 k hk).1), fun t2 s2 v2 n2 xs2 hne ho => ?_, fun g2 hg2 hne => ?_⟩
  · refine own_kept (ho.alloc _) hgr (fun k hk => ?_)
    obtain ⟨_, cs, t, fr, hh, rfl⟩ := own_row hown1 k hk
    exact ⟨cs, _, fr, hh, hne⟩
  · exact (hgr.block g2 (by rw [size_new]; omega) (fun e => hne e.symm)).trans (BlkW.heap_alloc_old w _ g2 hg2)
/-- The rows of a script's numbers, of its programs and of its picks. -/
theorem push_u {B : Nat} {w : World} (hB : B ≤ w.heap.size) {v : Value} {n : Nat} {xs : List Value} (hown : w.ownsRow B 55 1 v n xs) (hn : n ≤ 300000) (x : Int) :
    ∃ A c w', (Builtin.append_ #[47, 47] 47 #[v, .slice (some ⟨w.heap.size, 0, none⟩) 1 1]).run Tryd.prog (w.alloc (.cells #[.int .u64 x] 55)) = .ok (.slice A (n + 1) c) w' ∧
      w'.ownsRow B 55 1 (.slice A (n + 1) c) (n + 1) (xs ++ [.int .u64 x]) ∧ Below B w w' ∧ (∀ t2 s2 v2 n2 xs2, t2 ≠ 55 → w.ownsRow B t2 s2 v2 n2 xs2 → w'.ownsRow B t2 s2 v2 n2 xs2) ∧ (∀ g2, g2 < w.heap.size → v.ownBlock ≠ some g2 → w'.heap[g2]? = w.heap[g2]?) :=
  push_g (z := .int .u64 0) (bytes := 8) Tryd.underlying47 (by kernel_rfl) rfl (by decide) hB hown hn _ rfl
theorem push_p {B : Nat} {w : World} (hB : B ≤ w.heap.size) {v : Value} {n : Nat} {xs : List Value} (hown : w.ownsRow B 24 1 v n xs) (hn : n ≤ 300000) (A0 : Option Addr) (n0 c0 : Nat) :
    ∃ A c w', (Builtin.append_ #[48, 48] 48 #[v, .slice (some ⟨w.heap.size, 0, none⟩) 1 1]).run Tryd.prog (w.alloc (.cells #[.slice A0 n0 c0] 24)) = .ok (.slice A (n + 1) c) w' ∧
      w'.ownsRow B 24 1 (.slice A (n + 1) c) (n + 1) (xs ++ [.slice A0 n0 c0]) ∧ Below B w w' ∧ (∀ t2 s2 v2 n2 xs2, t2 ≠ 24 → w.ownsRow B t2 s2 v2 n2 xs2 → w'.ownsRow B t2 s2 v2 n2 xs2) ∧ (∀ g2, g2 < w.heap.size → v.ownBlock ≠ some g2 → w'.heap[g2]? = w.heap[g2]?) :=
  push_g (z := .slice none 0 0) (bytes := 24) Tryd.underlying48 (by kernel_rfl) rfl (by decide) hB hown hn _ rfl
end Go.Proofs.YthnhmclnfgkppaaDoor.PrgZ
