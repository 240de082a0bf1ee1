/-
  The numbers under which this program holds package sync's Mutex, and that it holds it.
-/
import Derived.Test.YtpnkjdamgkaonaaRows
import Derived.Conc.MuLone
import Derived.Conc.MuData
import Derived.KernelRfl
namespace Go.Proofs.Ytpnkjdamgkaonaa.Locks
abbrev link : Go.Conc.Locks.MuLink := { lock := 80, unlock := 81, ilock := 113, iunlock := 114, lockSlow := 132, unlockSlow := 135, disable := 128, enable := 130, acquire := 131, relMerge := 133, cas32 := 129, add32 := 134, tMutex := 133, tIMutex := 131, tPMutex := 160, tPIMutex := 168, tPI32 := 170, tUP := 172, tNoCopy := 128, tU32 := 129 }
theorem lib : Go.Conc.Locks.MuLib Try.prog link :=
  ⟨Try.func80, Try.func81, Try.func113, Try.func114, Try.func128, Try.func130, Try.func131, Try.func133, Try.func129, Try.func134, Try.underlying131, Try.runUnderlying131, Try.sizeOf131, Try.isAgg131, Try.zeroValue131, Try.underlying133, Try.runUnderlying133, Try.sizeOf133, Try.isAgg133, Try.zeroValue133, Try.underlying160, Try.runUnderlying160, Try.sizeOf160, Try.isAgg160, Try.zeroValue160, Try.underlying168, Try.runUnderlying168, Try.sizeOf168, Try.isAgg168, Try.zeroValue168, Try.underlying170, Try.runUnderlying170, Try.sizeOf170, Try.isAgg170, Try.zeroValue170, Try.underlying172, Try.runUnderlying172, Try.sizeOf172, Try.isAgg172, Try.zeroValue172, Try.underlying128, Try.runUnderlying128, Try.sizeOf128, Try.isAgg128, Try.zeroValue128, Try.underlying21, Try.runUnderlying21, Try.sizeOf21, Try.isAgg21, Try.zeroValue21, (by kernel_rfl)⟩
end Go.Proofs.Ytpnkjdamgkaonaa.Locks
