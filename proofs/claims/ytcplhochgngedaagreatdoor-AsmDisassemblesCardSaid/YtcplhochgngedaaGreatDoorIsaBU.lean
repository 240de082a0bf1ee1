/-
  (Nothing of package isa besides is wanted here.)
-/
import Derived.Test.YtcplhochgngedaaGreatDoorIsaB
namespace Go.Proofs.YtcplhochgngedaaGreatDoor.IsaBU
end Go.Proofs.YtcplhochgngedaaGreatDoor.IsaBU
