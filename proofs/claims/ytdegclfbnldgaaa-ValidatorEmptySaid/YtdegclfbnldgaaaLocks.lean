/-
  The numbers under which this program holds package sync's Mutex, and that it holds it.
-/
import Derived.Test.YtdegclfbnldgaaaRows
import Derived.Conc.MuLone
import Derived.Conc.MuData
import Derived.KernelRfl
namespace Go.Proofs.Ytdegclfbnldgaaa.Locks
abbrev link : Go.Conc.Locks.MuLink := { lock := 55, unlock := 56, ilock := 83, iunlock := 84, lockSlow := 99, unlockSlow := 102, disable := 95, enable := 97, acquire := 98, relMerge := 100, cas32 := 96, add32 := 101, tMutex := 102, tIMutex := 100, tPMutex := 127, tPIMutex := 135, tPI32 := 137, tUP := 139, tNoCopy := 97, tU32 := 98 }
theorem lib : Go.Conc.Locks.MuLib Try.prog link :=
  ⟨Try.func55, Try.func56, Try.func83, Try.func84, Try.func95, Try.func97, Try.func98, Try.func100, Try.func96, Try.func101, Try.underlying100, Try.runUnderlying100, Try.sizeOf100, Try.isAgg100, Try.zeroValue100, Try.underlying102, Try.runUnderlying102, Try.sizeOf102, Try.isAgg102, Try.zeroValue102, Try.underlying127, Try.runUnderlying127, Try.sizeOf127, Try.isAgg127, Try.zeroValue127, Try.underlying135, Try.runUnderlying135, Try.sizeOf135, Try.isAgg135, Try.zeroValue135, Try.underlying137, Try.runUnderlying137, Try.sizeOf137, Try.isAgg137, Try.zeroValue137, Try.underlying139, Try.runUnderlying139, Try.sizeOf139, Try.isAgg139, Try.zeroValue139, Try.underlying97, Try.runUnderlying97, Try.sizeOf97, Try.isAgg97, Try.zeroValue97, Try.underlying21, Try.runUnderlying21, Try.sizeOf21, Try.isAgg21, Try.zeroValue21, (by kernel_rfl)⟩
end Go.Proofs.Ytdegclfbnldgaaa.Locks
