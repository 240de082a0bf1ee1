/-
  The numbers under which this program holds package sync's Mutex, and that it holds it.
-/
import Derived.Test.YthgbfghhiadjpaaRows
import Derived.Conc.MuLone
import Derived.Conc.MuData
import Derived.KernelRfl
namespace Go.Proofs.Ythgbfghhiadjpaa.Locks
abbrev link : Go.Conc.Locks.MuLink := { lock := 72, unlock := 73, ilock := 98, iunlock := 99, lockSlow := 110, unlockSlow := 113, disable := 106, enable := 108, acquire := 109, relMerge := 111, cas32 := 107, add32 := 112, tMutex := 111, tIMutex := 109, tPMutex := 137, tPIMutex := 142, tPI32 := 144, tUP := 146, tNoCopy := 106, tU32 := 107 }
theorem lib : Go.Conc.Locks.MuLib Try.prog link :=
  ⟨Try.func72, Try.func73, Try.func98, Try.func99, Try.func106, Try.func108, Try.func109, Try.func111, Try.func107, Try.func112, Try.underlying109, Try.runUnderlying109, Try.sizeOf109, Try.isAgg109, Try.zeroValue109, Try.underlying111, Try.runUnderlying111, Try.sizeOf111, Try.isAgg111, Try.zeroValue111, Try.underlying137, Try.runUnderlying137, Try.sizeOf137, Try.isAgg137, Try.zeroValue137, Try.underlying142, Try.runUnderlying142, Try.sizeOf142, Try.isAgg142, Try.zeroValue142, Try.underlying144, Try.runUnderlying144, Try.sizeOf144, Try.isAgg144, Try.zeroValue144, Try.underlying146, Try.runUnderlying146, Try.sizeOf146, Try.isAgg146, Try.zeroValue146, Try.underlying106, Try.runUnderlying106, Try.sizeOf106, Try.isAgg106, Try.zeroValue106, Try.underlying21, Try.runUnderlying21, Try.sizeOf21, Try.isAgg21, Try.zeroValue21, (by kernel_rfl)⟩
end Go.Proofs.Ythgbfghhiadjpaa.Locks
