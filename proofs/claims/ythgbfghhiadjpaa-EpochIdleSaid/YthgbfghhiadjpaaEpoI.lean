/-
  Machines that have finished do nothing but make room for an answer; what the last two regions of the statement on them hold.
-/
import Derived.Test.YthgbfghhiadjpaaEpoL
namespace Go.Proofs.Ythgbfghhiadjpaa.EpoI
open Go.ChangeShapes Go.WideShapes Go.ChangeAt Go.RowKit
open PlainT BlkW LayS LayA CelS CelM CelP CelV CelN CelO CelI CelY CelQ CelT CelF LabD LabR LabP LabS EpoA EpoF EpoS
set_option linter.unusedVariables false
set_option maxHeartbeats 1000000
set_option maxRecDepth 100000

abbrev ZO : Obj := .cells #[.int .i64 0, .int .i64 0, .int .i64 0, .int .u64 0, .int .u64 0, .bool false] 57
theorem f_over {w : World} {g : Nat} {t n wd c : Int} (m : Option Addr) (M : Mem w g 129 #[.int .i64 2, .int .i64 t, .int .i64 n, .int .i64 wd, .int .i64 c]) : Calls Try.prog 53 #[.pointer (some ⟨g, 0, none⟩), .pointer m] w fun e w' => e = .returned (accV 0 0 0 0 0 false) ∧ w' = w.alloc ZO := by
  have hlt := M.lt
  have c0 := M.cell 0
  simp at c0
  have HM := Lib.hid (Mem.new w 57 #[.int .i64 0, .int .i64 0, .int .i64 0, .int .u64 0, .int .u64 0, .bool false])
  clear M
  go_enter Try.func53, Try.ntmps53
  go_wp2
  refine bodyPost_ret (v := accV 0 0 0 0 0 false) (results_cell_row rfl _ _ w.heap.size 57 #[.int .i64 0, .int .i64 0, .int .i64 0, .int .u64 0, .int .u64 0, .bool false] (0, 0) _ (by simp) HM.out Try.underlying57 rfl (by kernel_rfl)) rfl ⟨rfl, rfl⟩
theorem e_over {w : World} {g : Nat} {t v : Int} (m : Option Addr) (M : Mem w g 123 #[.int .i64 3, .int .i64 t, .int .i64 v]) : Calls Try.prog 41 #[.pointer (some ⟨g, 0, none⟩), .pointer m] w fun e w' => e = .returned (accV 0 0 0 0 0 false) ∧ w' = w.alloc ZO := by
  have hlt := M.lt
  have c0 := M.cell 0
  simp at c0
  have HM := Lib.hid (Mem.new w 57 #[.int .i64 0, .int .i64 0, .int .i64 0, .int .u64 0, .int .u64 0, .bool false])
  clear M
  go_enter Try.func41, Try.ntmps41
  go_wp2
  refine bodyPost_ret (v := accV 0 0 0 0 0 false) (results_cell_row rfl _ _ w.heap.size 57 #[.int .i64 0, .int .i64 0, .int .i64 0, .int .u64 0, .int .u64 0, .bool false] (0, 0) _ (by simp) HM.out Try.underlying57 rfl (by kernel_rfl)) rfl ⟨rfl, rfl⟩
/-- What region 14 holds. -/
def H14 (b rb gp gf ge : Nat) (tf nf wf cf ve : Int) (w : World) : Prop := Mem w gp TP #[.pointer (some ⟨b, 0, none⟩), .pointer (some ⟨rb, 0, none⟩)] ∧ Mem w gf 129 #[.int .i64 2, .int .i64 tf, .int .i64 nf, .int .i64 wf, .int .i64 cf] ∧ Mem w ge 123 #[.int .i64 3, .int .i64 0, .int .i64 ve]
abbrev S14 (b rb gp gf ge : Nat) (tf nf wf cf ve : Int) (w : World) : Prop := w.cell? ⟨gp, 0, none⟩ = some (.pointer (some ⟨b, 0, none⟩)) ∧ H14 b rb gp gf ge tf nf wf cf ve w
section
variable {b rb gp gf ge : Nat} {tf nf wf cf ve : Int} {w : World}
theorem s14_of (h : H14 b rb gp gf ge tf nf wf cf ve w) : S14 b rb gp gf ge tf nf wf cf ve w := ⟨h.1.cell 0, h⟩
theorem s14_alloc (h : S14 b rb gp gf ge tf nf wf cf ve w) (o : Obj) : S14 b rb gp gf ge tf nf wf cf ve (w.alloc o) := s14_of ⟨h.2.1.alloc o, h.2.2.1.alloc o, h.2.2.2.alloc o⟩
theorem s14_f (h : S14 b rb gp gf ge tf nf wf cf ve w) (m : Option Addr) : Calls Try.prog 53 #[.pointer (some ⟨gf, 0, none⟩), .pointer m] w fun e w' => e = .returned (accV 0 0 0 0 0 false) ∧ w' = w.alloc ZO := f_over m h.2.2.1
theorem s14_e (h : S14 b rb gp gf ge tf nf wf cf ve w) (m : Option Addr) : Calls Try.prog 41 #[.pointer (some ⟨ge, 0, none⟩), .pointer m] w fun e w' => e = .returned (accV 0 0 0 0 0 false) ∧ w' = w.alloc ZO := e_over m h.2.2.2
end
end Go.Proofs.Ythgbfghhiadjpaa.EpoI
