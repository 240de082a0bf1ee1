/-
  The numbers under which this program holds package sync's Mutex, and that it holds it.
-/
import Derived.Test.YtbedgdpcopghfaaRows
import Derived.Conc.MuLone
import Derived.Conc.MuData
import Derived.KernelRfl
namespace Go.Proofs.Ytbedgdpcopghfaa.Locks
abbrev link : Go.Conc.Locks.MuLink := { lock := 51, unlock := 52, ilock := 64, iunlock := 65, lockSlow := 72, unlockSlow := 75, disable := 68, enable := 70, acquire := 71, relMerge := 73, cas32 := 69, add32 := 74, tMutex := 88, tIMutex := 86, tPMutex := 98, tPIMutex := 102, tPI32 := 104, tUP := 106, tNoCopy := 83, tU32 := 84 }
theorem lib : Go.Conc.Locks.MuLib Try.prog link :=
  ⟨Try.func51, Try.func52, Try.func64, Try.func65, Try.func68, Try.func70, Try.func71, Try.func73, Try.func69, Try.func74, Try.underlying86, Try.runUnderlying86, Try.sizeOf86, Try.isAgg86, Try.zeroValue86, Try.underlying88, Try.runUnderlying88, Try.sizeOf88, Try.isAgg88, Try.zeroValue88, Try.underlying98, Try.runUnderlying98, Try.sizeOf98, Try.isAgg98, Try.zeroValue98, Try.underlying102, Try.runUnderlying102, Try.sizeOf102, Try.isAgg102, Try.zeroValue102, Try.underlying104, Try.runUnderlying104, Try.sizeOf104, Try.isAgg104, Try.zeroValue104, Try.underlying106, Try.runUnderlying106, Try.sizeOf106, Try.isAgg106, Try.zeroValue106, Try.underlying83, Try.runUnderlying83, Try.sizeOf83, Try.isAgg83, Try.zeroValue83, Try.underlying21, Try.runUnderlying21, Try.sizeOf21, Try.isAgg21, Try.zeroValue21, (by kernel_rfl)⟩
end Go.Proofs.Ytbedgdpcopghfaa.Locks
