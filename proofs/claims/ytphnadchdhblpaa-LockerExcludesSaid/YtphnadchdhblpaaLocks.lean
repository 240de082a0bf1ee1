/-
  The numbers under which this program holds package sync's Mutex, and that it holds it.
-/
import Derived.Test.YtphnadchdhblpaaRows
import Derived.Conc.MuLone
import Derived.Conc.MuData
import Derived.KernelRfl
namespace Go.Proofs.Ytphnadchdhblpaa.Locks
abbrev link : Go.Conc.Locks.MuLink := { lock := 68, unlock := 69, ilock := 104, iunlock := 105, lockSlow := 126, unlockSlow := 129, disable := 122, enable := 124, acquire := 125, relMerge := 127, cas32 := 123, add32 := 128, tMutex := 111, tIMutex := 109, tPMutex := 147, tPIMutex := 160, tPI32 := 162, tUP := 164, tNoCopy := 106, tU32 := 107 }
theorem lib : Go.Conc.Locks.MuLib Try.prog link :=
  ⟨Try.func68, Try.func69, Try.func104, Try.func105, Try.func122, Try.func124, Try.func125, Try.func127, Try.func123, Try.func128, Try.underlying109, Try.runUnderlying109, Try.sizeOf109, Try.isAgg109, Try.zeroValue109, Try.underlying111, Try.runUnderlying111, Try.sizeOf111, Try.isAgg111, Try.zeroValue111, Try.underlying147, Try.runUnderlying147, Try.sizeOf147, Try.isAgg147, Try.zeroValue147, Try.underlying160, Try.runUnderlying160, Try.sizeOf160, Try.isAgg160, Try.zeroValue160, Try.underlying162, Try.runUnderlying162, Try.sizeOf162, Try.isAgg162, Try.zeroValue162, Try.underlying164, Try.runUnderlying164, Try.sizeOf164, Try.isAgg164, Try.zeroValue164, Try.underlying106, Try.runUnderlying106, Try.sizeOf106, Try.isAgg106, Try.zeroValue106, Try.underlying21, Try.runUnderlying21, Try.sizeOf21, Try.isAgg21, Try.zeroValue21, (by kernel_rfl)⟩
end Go.Proofs.Ytphnadchdhblpaa.Locks
