/-
  Place; arguments that came in: a row of integers, a row of words to write; what a step of a log leaves beside it.
-/
import Derived.Test.YtelpimhgodkmlaaRlE
import Derived.Test.YtelpimhgodkmlaaFrame
import Derived.Deep.Slices
namespace Go.Proofs.Ytelpimhgodkmlaa.RlF
open Go.ChangeShapes Go.WideShapes Go.ChangeAt Go.RowKit
open PlainT BlkW CelS CelM CelV CelN LabD FreV FreI RsA RlU RlP RlA RlB RlC RlD RlE
set_option linter.unusedVariables false
set_option maxHeartbeats 1000000
set_option maxRecDepth 100000
/-- A number reduced below m. -/
def pl (a m : Int) : Int := wrap64 ((IntKind.u64.wrap a).tmod m)
theorem pl_in (a m : Int) (h0 : 0 < m) (h1 : m ≤ 1000) : 0 ≤ pl a m ∧ pl a m ≤ m - 1 := by
  have hu : 0 ≤ IntKind.u64.wrap a := (bounds_u64 (wf_wrap .u64 a)).1
  unfold pl
  rw [Int.tmod_eq_emod_of_nonneg hu]
  have a0 := Int.emod_nonneg (IntKind.u64.wrap a) (by omega : m ≠ 0)
  have a1 := Int.emod_lt_of_pos (IntKind.u64.wrap a) h0
  rw [IntWalk.wrap64_in _ (by omega)]
  omega
theorem k_place (a m v : Int) (h0 : 0 < m) (h1 : m ≤ 1000) (hv : pl a m = v) (w : World) : Calls Try.prog 11 #[.int .i64 a, .int .i64 m] w fun e w' => e = .returned (.int .i64 v) ∧ w = w' := by
  have hw : IntKind.u64.wrap m = m := Int.emod_eq_of_lt (by omega) (by show m < 18446744073709551616; omega)
  have hv2 : wrap64 ((IntKind.u64.wrap a).tmod m) = v := hv
  clear hv
  go_enter Try.func11, Try.ntmps11
  go_wp2
  go_ret
  exact ⟨by rw [← hv2]; rfl, rfl⟩
/-- Place, whatever it gives. -/
theorem k_place_ex (a m : Int) (h0 : 0 < m) (h1 : m ≤ 1000) (w : World) : Calls Try.prog 11 #[.int .i64 a, .int .i64 m] w fun e w' => ∃ v, 0 ≤ v ∧ v ≤ m - 1 ∧ e = .returned (.int .i64 v) ∧ w = w' :=
  (k_place a m _ h0 h1 rfl w).mono fun e w' ⟨h, hw⟩ => ⟨_, (pl_in a m h0 h1).1, (pl_in a m h0 h1).2, h, hw⟩

theorem iat {w0 w : World} {A : Option Addr} {n : Nat} {z : List Int} (h : LawFrame.Ints .i64 w0 A n z) (ho : Below w0.heap.size w0 w) {k : Nat} (hk : k < n) : ∃ b off x, A = some ⟨b, off, none⟩ ∧ b < w0.heap.size ∧ w.cell? ⟨b, off + k, none⟩ = some (.int .i64 x) := by
  obtain ⟨h1, h2, h3⟩ := h
  obtain ⟨b, off, rfl, hb, hc⟩ := h3 (by omega)
  exact ⟨b, off, _, rfl, hb, (World.cell?_of_block (ho.block b hb)).trans (hc k hk)⟩
/-- What lies beside a log stays beside it. -/
theorem put_side {w w' : World} {L L' : LV} (hF : Fr (Blks L) w w') (hb : ∀ y, Blks L' y → Blks L y ∨ w.heap.size ≤ y) {y : Nat} (hy : ¬ Blks L y) (hl : y < w.heap.size) : w'.heap[y]? = w.heap[y]? ∧ ¬ Blks L' y :=
  ⟨hF.block y hl hy, fun h => by
    rcases hb y h with h | h
    · exact hy h
    · omega⟩
theorem put_stay {cap : Nat} {ad vs ix : List Int} {x v : Int} (nn : ∀ y ∈ ad, 0 ≤ y) (hno : x < 0 ∨ (¬ x ∈ ad ∧ ¬ ad.length < cap)) : putR cap ad x = false ∧ putA cap ad x = ad ∧ putV cap ad vs x v = vs ∧ putX cap ad ix x = ix := by
  have hin : ¬ x ∈ ad := by
    rcases hno with hno | hno
    · intro c
      have := nn x c
      omega
    · exact hno.1
  have hc : ¬ (0 ≤ x ∧ ¬ x ∈ ad ∧ ad.length < cap) := by
    rintro ⟨c1, c2, c3⟩
    rcases hno with hno | hno
    · omega
    · exact hno.2 c3
  refine ⟨putR_no hno, if_neg hc, ?_, if_neg hc⟩
  unfold putV
  rw [if_neg hin, if_neg]
  rintro ⟨c1, c2⟩
  exact hc ⟨c1, hin, c2⟩
theorem put_has {cap : Nat} {ad vs ix : List Int} {x v : Int} (h0 : 0 ≤ x) (hin : x ∈ ad) : putR cap ad x = true ∧ putA cap ad x = ad ∧ putV cap ad vs x v = vs.set (ad.idxOf x) v ∧ putX cap ad ix x = ix :=
  ⟨putR_yes h0 (.inl hin), if_neg fun c => c.2.1 hin, if_pos hin, if_neg fun c => c.2.1 hin⟩
theorem put_new {cap : Nat} {ad vs ix : List Int} {x v : Int} (h0 : 0 ≤ x) (hin : ¬ x ∈ ad) (hf : ad.length < cap) : putR cap ad x = true ∧ putA cap ad x = ad ++ [x] ∧ putV cap ad vs x v = vs ++ [v] ∧ putX cap ad ix x = ix.set (slot ix x) ad.length :=
  ⟨putR_yes h0 (.inr hf), if_pos ⟨h0, hin, hf⟩, by unfold putV; rw [if_neg hin, if_pos ⟨h0, hf⟩], if_pos ⟨h0, hin, hf⟩⟩
/-- A row of n words to write. -/
def RowU (w : World) (A : Option Addr) (n : Nat) : Prop := 0 < n → ∃ b off : Nat, A = some ⟨b, off, none⟩ ∧ b < w.heap.size ∧ ∀ i, i < n → ∃ x v : Int, w.cell? ⟨b, off + i * 2, none⟩ = some (.int .i64 x) ∧ w.cell? ⟨b, off + i * 2 + 1, none⟩ = some (.int .u64 v)
theorem RowU.at_ {w0 w : World} {A : Option Addr} {n : Nat} (h : RowU w0 A n) (ho : Below w0.heap.size w0 w) {i : Nat} (hi : i < n) : ∃ b off : Nat, ∃ x v : Int, A = some ⟨b, off, none⟩ ∧ w.cell? ⟨b, off + i * 2, none⟩ = some (.int .i64 x) ∧ w.cell? ⟨b, off + i * 2 + 1, none⟩ = some (.int .u64 v) := by
  obtain ⟨b, off, rfl, hb, hc⟩ := h (by omega)
  obtain ⟨x, v, h0, h1⟩ := hc i hi
  have e := ho.block b hb
  exact ⟨b, off, x, v, rfl, (World.cell?_of_block e).trans h0, (World.cell?_of_block e).trans h1⟩
section
variable {H : Type} {enc : TypeId × Value → H} {W : World} {base : Nat} {held : Bool}
theorem open_put {sp : Nat → Bool} {n : Nat} {cs : List Value} {x : DataW H × List MemPlace} (h : DataW.trod enc Try.prog W base sp held n 30 cs = some x) : ∃ a v : Int, cs = [.int .i64 a, .int .u64 v] := by
  obtain ⟨xs, m, _, _, hl, hxl, hg⟩ := DataW.trod_struct Try.underlying30 h
  have hc : Try.prog.cellsOf 30 = 2 := by kernel_rfl
  have hci : Try.prog.cellsOf 3 = 1 := by kernel_rfl
  have hcu : Try.prog.cellsOf 28 = 1 := by kernel_rfl
  rw [hc] at hl
  match cs, hl with
  | [c0, c1], _ =>
  match xs, hxl with
  | [y0, y1], _ =>
    have g0 := hg 0 _ rfl
    have g1 := hg 1 _ rfl
    simp only [List.getElem?_cons_zero, List.getElem?_cons_succ] at g0 g1
    obtain ⟨z0, e0, _, w0⟩ := DataW.trod_int Try.underlying3 g0
    obtain ⟨z1, e1, _, w1⟩ := DataW.trod_int Try.underlying28 g1
    simp [hci, hcu] at e0 e1
    subst e0 e1
    exact ⟨z0, z1, rfl⟩
theorem open_row {b0 : Nat} {v : Value} {d : DataW H} {ps : List MemPlace} (hval : Value.okWide Try.prog W .any b0 22 v) (hd : DataW.Trod enc Try.prog W base (fun _ => true) held 22 v d ps) :
    ∃ (A : Option Addr) (k c : Nat), v = .slice A k c ∧ k ≤ c ∧ c ≤ maxLen ∧ RowU W A k := by
  obtain ⟨A, n, c, rfl⟩ := okWide_slice Try.underlying22 hval
  obtain ⟨fuel, hf⟩ := hd
  have hc : Try.prog.cellsOf 30 = 2 := by kernel_rfl
  rcases Go.Deep.open_slice Try.underlying22 hf with ⟨hcs, _⟩ | ⟨a, len, cap, m, n', D, Pl, hcs, hb, hl, hm, hmm, hx, hi⟩
  · simp [Value.cells] at hcs
    obtain ⟨rfl, rfl, rfl⟩ := hcs
    exact ⟨none, 0, 0, rfl, Nat.le_refl _, Nat.zero_le _, fun h => absurd h (by omega)⟩
  · simp [Value.cells] at hcs
    obtain ⟨rfl, rfl, rfl⟩ := hcs
    simp only [if_true] at hmm
    have hmm' := hmm.symm
    subst hmm'
    rw [hc] at hi
    have each : ∀ i, i < c → ∃ q : Int × Int, W.cell? (a.add (i * 2)) = some (.int .i64 q.1) ∧ W.cell? ((a.add (i * 2)).add 1) = some (.int .u64 q.2) := by
      intro i hic
      obtain ⟨cs', h1, h2⟩ := hi i hic
      obtain ⟨q0, q1, rfl⟩ := open_put h2
      obtain ⟨_, _, h3⟩ := World.cells?_some h1
      have k0 := h3 0 (by omega)
      have k1 := h3 1 (by omega)
      refine ⟨(q0, q1), ?_, ?_⟩
      · simpa [Addr.add] using k0
      · simpa using k1
    refine ⟨some a, n, c, rfl, hl, hm, fun h0 => ?_⟩
    obtain ⟨q, h00, _⟩ := each 0 (by omega)
    have hsp : a.spot = none := by
      have := World.cell?_spot h00
      simpa [Addr.add] using this
    obtain ⟨b, off, spot⟩ := a
    simp only at hsp
    subst hsp
    rw [Go.WideShapes.add_plain] at h00
    refine ⟨b, off, rfl, World.block_lt_of_cell? _ _ h00, fun i hin => ?_⟩
    obtain ⟨q, e0, e1⟩ := each i (by omega)
    rw [Go.WideShapes.add_plain] at e0
    rw [Go.WideShapes.add_plain, Go.WideShapes.add_plain] at e1
    exact ⟨_, _, e0, e1⟩
end
end Go.Proofs.Ytelpimhgodkmlaa.RlF
