/-
  The numbers under which this program holds package sync's Mutex, and that it holds it.
-/
import Derived.Test.YtpjbmbipkmpkhaaRows
import Derived.Conc.MuLone
import Derived.Conc.MuData
import Derived.KernelRfl
namespace Go.Proofs.Ytpjbmbipkmpkhaa.Locks
abbrev link : Go.Conc.Locks.MuLink := { lock := 77, unlock := 78, ilock := 109, iunlock := 110, lockSlow := 129, unlockSlow := 132, disable := 125, enable := 127, acquire := 128, relMerge := 130, cas32 := 126, add32 := 131, tMutex := 131, tIMutex := 129, tPMutex := 170, tPIMutex := 182, tPI32 := 184, tUP := 186, tNoCopy := 126, tU32 := 127 }
theorem lib : Go.Conc.Locks.MuLib Try.prog link :=
  ⟨Try.func77, Try.func78, Try.func109, Try.func110, Try.func125, Try.func127, Try.func128, Try.func130, Try.func126, Try.func131, Try.underlying129, Try.runUnderlying129, Try.sizeOf129, Try.isAgg129, Try.zeroValue129, Try.underlying131, Try.runUnderlying131, Try.sizeOf131, Try.isAgg131, Try.zeroValue131, Try.underlying170, Try.runUnderlying170, Try.sizeOf170, Try.isAgg170, Try.zeroValue170, Try.underlying182, Try.runUnderlying182, Try.sizeOf182, Try.isAgg182, Try.zeroValue182, Try.underlying184, Try.runUnderlying184, Try.sizeOf184, Try.isAgg184, Try.zeroValue184, Try.underlying186, Try.runUnderlying186, Try.sizeOf186, Try.isAgg186, Try.zeroValue186, Try.underlying126, Try.runUnderlying126, Try.sizeOf126, Try.isAgg126, Try.zeroValue126, Try.underlying21, Try.runUnderlying21, Try.sizeOf21, Try.isAgg21, Try.zeroValue21, (by kernel_rfl)⟩
end Go.Proofs.Ytpjbmbipkmpkhaa.Locks
