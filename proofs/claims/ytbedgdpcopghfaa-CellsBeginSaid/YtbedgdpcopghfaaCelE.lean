/-
  Contracts of package cells: New of arguments that it refuses.
-/
import Derived.Test.YtbedgdpcopghfaaCelL
import Derived.Test.YtbedgdpcopghfaaLayH
import Derived.Laws.CopyRow
namespace Go.Proofs.Ytbedgdpcopghfaa.CelE
open Go.ChangeShapes Go.WideShapes Go.ChangeAt Go.RowKit
open PlainT BlkW LayS LayA LayB LayD LayF LayH CelS CelM CelR CelL
set_option linter.unusedVariables false
set_option maxHeartbeats 1000000
set_option maxRecDepth 100000
theorem a_new_bad (q : Cfg) (hc : chkV q ≠ 0) (w : World) (nt : Int) (v : Value) : Calls Try.prog 26 #[cfgV q, .int .i64 nt, v] w fun e w' => e = .returned (.tuple #[.pointer none, .int .i64 (chkV q)]) ∧ Below w.heap.size w w' := by
  have hck := a_check q
  obtain ⟨c, hcc⟩ : ∃ c, chkV q = c := ⟨_, rfl⟩
  rw [hcc] at hck hc ⊢
  have hc1 : (c == 0) = false := by simpa using hc
  have hc2 : (c != 0) = true := by simpa using hc
  have HM := Lib.hid (Mem.new w TC (cells q))
  have HB := Lib.hid (below_new w (.cells (cells q) TC))
  clear hcc hc
  obtain ⟨d0, d1, d2, d3, d4, d5, d6, d7, d8, d9, d10, d11, d12⟩ := box_cells HM.out
  go_enter Try.func26, Try.ntmps26
  go_wp2_with (go_at_call 18; (with_reducible refine (hck _).mono ?_); rintro e w2 ⟨rfl, hb2⟩; have HB2 := Lib.hid (HB.out.trans (hb2.mono (by rw [size_new]; omega))); clear hb2)
  refine bodyPost_ret (v := .tuple #[.pointer none, .int .i64 c]) ((results_tmp2 rfl _ _ _).trans (by rfl)) rfl ⟨rfl, HB2.out⟩
theorem a_new_threads (q : Cfg) (hv : Valid q) (w : World) (nt : Int) (ht : nt < 1 ∨ 16 < nt) (v : Value) : Calls Try.prog 26 #[cfgV q, .int .i64 nt, v] w fun e w' => e = .returned (.tuple #[.pointer none, .int .i64 54]) ∧ Below w.heap.size w w' := by
  have hck := a_check q
  rw [chk_iff.2 hv] at hck
  have HM := Lib.hid (Mem.new w TC (cells q))
  have HB := Lib.hid (below_new w (.cells (cells q) TC))
  clear hv
  obtain ⟨d0, d1, d2, d3, d4, d5, d6, d7, d8, d9, d10, d11, d12⟩ := box_cells HM.out
  by_cases h1 : nt < 1
  · clear ht
    go_enter Try.func26, Try.ntmps26
    go_wp2_with (go_at_call 18; (with_reducible refine (hck _).mono ?_); rintro e w2 ⟨rfl, hb2⟩; have HB2 := Lib.hid (HB.out.trans (hb2.mono (by rw [size_new]; omega))); clear hb2)
    refine bodyPost_ret (v := .tuple #[.pointer none, .int .i64 54]) ((results_tmp2 rfl _ _ _).trans (by rfl)) rfl ⟨rfl, HB2.out⟩
  · have h2 : 16 < nt := by omega
    have h3 : 1 ≤ nt := by omega
    clear ht h1
    go_enter Try.func26, Try.ntmps26
    go_wp2_with (go_at_call 18; (with_reducible refine (hck _).mono ?_); rintro e w2 ⟨rfl, hb2⟩; have HB2 := Lib.hid (HB.out.trans (hb2.mono (by rw [size_new]; omega))); clear hb2)
    refine bodyPost_ret (v := .tuple #[.pointer none, .int .i64 54]) ((results_tmp2 rfl _ _ _).trans (by rfl)) rfl ⟨rfl, HB2.out⟩
theorem a_new_init (q : Cfg) (hv : Valid q) (w : World) (nt : Int) (t1 : 1 ≤ nt) (t2 : nt ≤ 16) (p : Option Addr) (n cap : Nat) (hn : (n : Int) ≠ q.w) : Calls Try.prog 26 #[cfgV q, .int .i64 nt, .slice p n cap] w fun e w' => e = .returned (.tuple #[.pointer none, .int .i64 55]) ∧ Below w.heap.size w w' := by
  have hck := a_check q
  rw [chk_iff.2 hv] at hck
  have hne : ((n : Int) != q.w) = true := by simpa using hn
  have HM := Lib.hid (Mem.new w TC (cells q))
  have HB := Lib.hid (below_new w (.cells (cells q) TC))
  clear hv hn
  go_enter Try.func26, Try.ntmps26
  go_wp2_with (go_at_call 18; (with_reducible refine (hck _).mono ?_); rintro e w2 ⟨rfl, hb2⟩; have HB2 := Lib.hid (HB.out.trans (hb2.mono (by rw [size_new]; omega))); have HM2 := Lib.hid (HM.out.below hb2 HM.out.lt); clear hb2; obtain ⟨d0, d1, d2, d3, d4, d5, d6, d7, d8, d9, d10, d11, d12⟩ := box_cells HM2.out)
  refine bodyPost_ret (v := .tuple #[.pointer none, .int .i64 55]) ((results_tmp2 rfl _ _ _).trans (by rfl)) rfl ⟨rfl, HB2.out⟩
end Go.Proofs.Ytbedgdpcopghfaa.CelE
