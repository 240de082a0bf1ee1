/-
  The numbers under which this program holds package sync's Mutex, and that it holds it.
-/
import Derived.Test.YtnakmajnljpblaaRows
import Derived.Conc.MuLone
import Derived.Conc.MuData
import Derived.KernelRfl
namespace Go.Proofs.Ytnakmajnljpblaa.Locks
abbrev link : Go.Conc.Locks.MuLink := { lock := 77, unlock := 78, ilock := 110, iunlock := 111, lockSlow := 129, unlockSlow := 132, disable := 125, enable := 127, acquire := 128, relMerge := 130, cas32 := 126, add32 := 131, tMutex := 131, tIMutex := 129, tPMutex := 159, tPIMutex := 167, tPI32 := 169, tUP := 171, tNoCopy := 126, tU32 := 127 }
theorem lib : Go.Conc.Locks.MuLib Try.prog link :=
  ⟨Try.func77, Try.func78, Try.func110, Try.func111, Try.func125, Try.func127, Try.func128, Try.func130, Try.func126, Try.func131, Try.underlying129, Try.runUnderlying129, Try.sizeOf129, Try.isAgg129, Try.zeroValue129, Try.underlying131, Try.runUnderlying131, Try.sizeOf131, Try.isAgg131, Try.zeroValue131, Try.underlying159, Try.runUnderlying159, Try.sizeOf159, Try.isAgg159, Try.zeroValue159, Try.underlying167, Try.runUnderlying167, Try.sizeOf167, Try.isAgg167, Try.zeroValue167, Try.underlying169, Try.runUnderlying169, Try.sizeOf169, Try.isAgg169, Try.zeroValue169, Try.underlying171, Try.runUnderlying171, Try.sizeOf171, Try.isAgg171, Try.zeroValue171, Try.underlying126, Try.runUnderlying126, Try.sizeOf126, Try.isAgg126, Try.zeroValue126, Try.underlying21, Try.runUnderlying21, Try.sizeOf21, Try.isAgg21, Try.zeroValue21, (by kernel_rfl)⟩
end Go.Proofs.Ytnakmajnljpblaa.Locks
