/-
  The numbers under which this program holds package sync's Mutex, and that it holds it.
-/
import Derived.Test.YtcbhpoajpingcaaRows
import Derived.Conc.MuLone
import Derived.Conc.MuData
import Derived.KernelRfl
namespace Go.Proofs.Ytcbhpoajpingcaa.Locks
abbrev link : Go.Conc.Locks.MuLink := { lock := 75, unlock := 76, ilock := 106, iunlock := 107, lockSlow := 121, unlockSlow := 124, disable := 117, enable := 119, acquire := 120, relMerge := 122, cas32 := 118, add32 := 123, tMutex := 125, tIMutex := 123, tPMutex := 156, tPIMutex := 161, tPI32 := 163, tUP := 165, tNoCopy := 120, tU32 := 121 }
theorem lib : Go.Conc.Locks.MuLib Try.prog link :=
  ⟨Try.func75, Try.func76, Try.func106, Try.func107, Try.func117, Try.func119, Try.func120, Try.func122, Try.func118, Try.func123, Try.underlying123, Try.runUnderlying123, Try.sizeOf123, Try.isAgg123, Try.zeroValue123, Try.underlying125, Try.runUnderlying125, Try.sizeOf125, Try.isAgg125, Try.zeroValue125, Try.underlying156, Try.runUnderlying156, Try.sizeOf156, Try.isAgg156, Try.zeroValue156, Try.underlying161, Try.runUnderlying161, Try.sizeOf161, Try.isAgg161, Try.zeroValue161, Try.underlying163, Try.runUnderlying163, Try.sizeOf163, Try.isAgg163, Try.zeroValue163, Try.underlying165, Try.runUnderlying165, Try.sizeOf165, Try.isAgg165, Try.zeroValue165, Try.underlying120, Try.runUnderlying120, Try.sizeOf120, Try.isAgg120, Try.zeroValue120, Try.underlying21, Try.runUnderlying21, Try.sizeOf21, Try.isAgg21, Try.zeroValue21, (by kernel_rfl)⟩
end Go.Proofs.Ytcbhpoajpingcaa.Locks
