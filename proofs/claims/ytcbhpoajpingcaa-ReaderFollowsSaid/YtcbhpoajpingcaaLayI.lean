/-
  Contract of package layout: Orec.
-/
import Derived.Test.YtcbhpoajpingcaaLayH
import Derived.Deep.RegionLaw
namespace Go.Proofs.Ytcbhpoajpingcaa.LayI
open Go.ChangeShapes Go.WideShapes Go.ChangeAt Go.RowKit
open PlainT BlkW LayS LayA LayB LayC LayD LayE LayF LayG LayH
set_option linter.unusedVariables false
set_option maxHeartbeats 1000000

end Go.Proofs.Ytcbhpoajpingcaa.LayI
