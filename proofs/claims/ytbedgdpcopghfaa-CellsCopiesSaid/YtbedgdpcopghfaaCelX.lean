/-
  Contract of package cells: Image of no cells.
-/
import Derived.Test.YtbedgdpcopghfaaCelI
import Derived.Laws.Rows
import Derived.Defers
namespace Go.Proofs.Ytbedgdpcopghfaa.CelX
open Go.ChangeShapes Go.WideShapes Go.ChangeAt Go.RowKit Go.MuLone
open PlainT BlkW CelS CelM CelP CelV CelN CelO CelI
set_option linter.unusedVariables false
set_option maxHeartbeats 1000000
set_option maxRecDepth 100000

theorem m_image_nil (w : World) : Calls Try.prog 29 #[.pointer none] w fun e w' => e = .returned (imgV (.slice none 0 0) (.slice none 0 0) 0 0 0 (.slice none 0 0) (.slice none 0 0) (.slice none 0 0)) ∧ Below w.heap.size w w' := by
  have M0 := Mem.new w 50 #[.slice none 0 0, .slice none 0 0, .int .u64 0, .int .u64 0, .int .u64 0, .slice none 0 0, .slice none 0 0, .slice none 0 0]
  have B0 := below_new w (.cells #[.slice none 0 0, .slice none 0 0, .int .u64 0, .int .u64 0, .int .u64 0, .slice none 0 0, .slice none 0 0, .slice none 0 0] 50)
  have d0 := M0.cell 0
  have d1 := M0.cell 1
  have d2 := M0.cell 2
  have d3 := M0.cell 3
  have d4 := M0.cell 4
  have d5 := M0.cell 5
  have d6 := M0.cell 6
  have d7 := M0.cell 7
  have df := M0.frozen
  go_enter_defers Try.func29, Try.ntmps29
  go_wp2
  refine ⟨_, results_cell_row rfl _ _ w.heap.size 50 #[.slice none 0 0, .slice none 0 0, .int .u64 0, .int .u64 0, .int .u64 0, .slice none 0 0, .slice none 0 0, .slice none 0 0] (0, 0) _ (by simp) M0 Try.underlying50 rfl (by kernel_rfl), rfl, B0⟩
end Go.Proofs.Ytbedgdpcopghfaa.CelX
