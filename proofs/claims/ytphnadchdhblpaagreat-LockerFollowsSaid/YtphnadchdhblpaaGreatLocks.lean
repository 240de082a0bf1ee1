/-
  The numbers under which this program holds package sync's Mutex, and that it holds it.
-/
import Derived.Test.YtphnadchdhblpaaGreatRows
import Derived.Conc.MuLone
import Derived.Conc.MuData
import Derived.KernelRfl
namespace Go.Proofs.YtphnadchdhblpaaGreat.Locks
abbrev link : Go.Conc.Locks.MuLink := { lock := 48, unlock := 49, ilock := 66, iunlock := 67, lockSlow := 83, unlockSlow := 86, disable := 79, enable := 81, acquire := 82, relMerge := 84, cas32 := 80, add32 := 85, tMutex := 100, tIMutex := 98, tPMutex := 115, tPIMutex := 123, tPI32 := 125, tUP := 127, tNoCopy := 95, tU32 := 96 }
theorem lib : Go.Conc.Locks.MuLib Tryz.prog link :=
  ⟨Tryz.func48, Tryz.func49, Tryz.func66, Tryz.func67, Tryz.func79, Tryz.func81, Tryz.func82, Tryz.func84, Tryz.func80, Tryz.func85, Tryz.underlying98, Tryz.runUnderlying98, Tryz.sizeOf98, Tryz.isAgg98, Tryz.zeroValue98, Tryz.underlying100, Tryz.runUnderlying100, Tryz.sizeOf100, Tryz.isAgg100, Tryz.zeroValue100, Tryz.underlying115, Tryz.runUnderlying115, Tryz.sizeOf115, Tryz.isAgg115, Tryz.zeroValue115, Tryz.underlying123, Tryz.runUnderlying123, Tryz.sizeOf123, Tryz.isAgg123, Tryz.zeroValue123, Tryz.underlying125, Tryz.runUnderlying125, Tryz.sizeOf125, Tryz.isAgg125, Tryz.zeroValue125, Tryz.underlying127, Tryz.runUnderlying127, Tryz.sizeOf127, Tryz.isAgg127, Tryz.zeroValue127, Tryz.underlying95, Tryz.runUnderlying95, Tryz.sizeOf95, Tryz.isAgg95, Tryz.zeroValue95, Tryz.underlying21, Tryz.runUnderlying21, Tryz.sizeOf21, Tryz.isAgg21, Tryz.zeroValue21, (by kernel_rfl)⟩
end Go.Proofs.YtphnadchdhblpaaGreat.Locks
