/-
  The numbers under which this program holds package sync's Mutex, and that it holds it.
-/
import Derived.Test.YtpdmmblcjidekaaRows
import Derived.Conc.MuLone
import Derived.Conc.MuData
import Derived.KernelRfl
namespace Go.Proofs.Ytpdmmblcjidekaa.Locks
abbrev link : Go.Conc.Locks.MuLink := { lock := 83, unlock := 84, ilock := 108, iunlock := 109, lockSlow := 119, unlockSlow := 122, disable := 115, enable := 117, acquire := 118, relMerge := 120, cas32 := 116, add32 := 121, tMutex := 118, tIMutex := 116, tPMutex := 147, tPIMutex := 151, tPI32 := 153, tUP := 155, tNoCopy := 113, tU32 := 114 }
theorem lib : Go.Conc.Locks.MuLib Try.prog link :=
  ⟨Try.func83, Try.func84, Try.func108, Try.func109, Try.func115, Try.func117, Try.func118, Try.func120, Try.func116, Try.func121, Try.underlying116, Try.runUnderlying116, Try.sizeOf116, Try.isAgg116, Try.zeroValue116, Try.underlying118, Try.runUnderlying118, Try.sizeOf118, Try.isAgg118, Try.zeroValue118, Try.underlying147, Try.runUnderlying147, Try.sizeOf147, Try.isAgg147, Try.zeroValue147, Try.underlying151, Try.runUnderlying151, Try.sizeOf151, Try.isAgg151, Try.zeroValue151, Try.underlying153, Try.runUnderlying153, Try.sizeOf153, Try.isAgg153, Try.zeroValue153, Try.underlying155, Try.runUnderlying155, Try.sizeOf155, Try.isAgg155, Try.zeroValue155, Try.underlying113, Try.runUnderlying113, Try.sizeOf113, Try.isAgg113, Try.zeroValue113, Try.underlying21, Try.runUnderlying21, Try.sizeOf21, Try.isAgg21, Try.zeroValue21, (by kernel_rfl)⟩
end Go.Proofs.Ytpdmmblcjidekaa.Locks
