/-
  The numbers under which this program holds package sync's Mutex, and that it holds it.
-/
import Derived.Test.YtfondhajedkmbaaRows
import Derived.Conc.MuLone
import Derived.Conc.MuData
import Derived.KernelRfl
namespace Go.Proofs.Ytfondhajedkmbaa.Locks
abbrev link : Go.Conc.Locks.MuLink := { lock := 52, unlock := 53, ilock := 77, iunlock := 78, lockSlow := 93, unlockSlow := 96, disable := 89, enable := 91, acquire := 92, relMerge := 94, cas32 := 90, add32 := 95, tMutex := 98, tIMutex := 96, tPMutex := 121, tPIMutex := 132, tPI32 := 134, tUP := 136, tNoCopy := 93, tU32 := 94 }
theorem lib : Go.Conc.Locks.MuLib Try.prog link :=
  ⟨Try.func52, Try.func53, Try.func77, Try.func78, Try.func89, Try.func91, Try.func92, Try.func94, Try.func90, Try.func95, Try.underlying96, Try.runUnderlying96, Try.sizeOf96, Try.isAgg96, Try.zeroValue96, Try.underlying98, Try.runUnderlying98, Try.sizeOf98, Try.isAgg98, Try.zeroValue98, Try.underlying121, Try.runUnderlying121, Try.sizeOf121, Try.isAgg121, Try.zeroValue121, Try.underlying132, Try.runUnderlying132, Try.sizeOf132, Try.isAgg132, Try.zeroValue132, Try.underlying134, Try.runUnderlying134, Try.sizeOf134, Try.isAgg134, Try.zeroValue134, Try.underlying136, Try.runUnderlying136, Try.sizeOf136, Try.isAgg136, Try.zeroValue136, Try.underlying93, Try.runUnderlying93, Try.sizeOf93, Try.isAgg93, Try.zeroValue93, Try.underlying21, Try.runUnderlying21, Try.sizeOf21, Try.isAgg21, Try.zeroValue21, (by kernel_rfl)⟩
end Go.Proofs.Ytfondhajedkmbaa.Locks
