/-
  No cell of these rows narrows 'for every input' (looked for: loops, veiled, ifaces, maps, wideKeys, modest, calm, conditions, laid).
  DERIVED. THE GIVEN ROWS OF THIS SEAT. 5 by the template 'for every input the law returns true; each argument reads behind the call as it read before'; 0 by the template 'total and deterministic' (their statements: YtfondhajedkmbaaTotals.lean).
  GIVEN WITH THE SEED: the statements are not yours to turn. If you find one false, say at which input.
  Laid BY PROGRAM, IN A SANDBOX (cutbox-rows.mjs): the forced cells as the released guide's own fill.sh prints them over the translation aa315bc941e3545b… (all of the seat's roots in one cut). By AI agents, Wed Nov 11 2026. No macro, syntax, notation, axiom, sorry.
-/
import Derived.Test.YtfondhajedkmbaaChecked
import GoSem.Claim
import GoSem.ClaimJoined
import GoSem.ClaimMapViews
import Derived.JoinedTies
import Derived.KernelRfl
namespace Go.Proofs.Ytfondhajedkmbaa
/- THE CELL 'sum', in the pinned program and in every row, IS THE sha256 OF THE DUMP (.gsa) THAT YtfondhajedkmbaaProg.lean LOADS. Nothing in Lean hashes anything: it is a label: what it is worth is what the hold of that sum in a sandbox is worth. -/
noncomputable def Try.pinned : Pinned := { name := "ytfondhajedkmbaa", sum := "aa315bc941e3545bc1fd39eaa25a1cb4eb731278b37d0412f6eccbd3e9c92394", checked := Try.checked }
namespace Rows
def none {H : Type} : Left H := { results := [], args := [] }

/-- 'strongtxlaw08.CellsFollow': WHATEVER THE INPUT: true; the input reads as it did. -/
def cellsFollowSpec : ChangeSpec := { name := "cellsFollow", fn := fun _ => fun
  | [d1, d2, d3, d4] => { results := [.lit (.bool true)], args := [d1, d2, d3, d4] }
  | _ => none }
def cellsFollowRow : OpenClaim := { program := "ytfondhajedkmbaa", sum := "aa315bc941e3545bc1fd39eaa25a1cb4eb731278b37d0412f6eccbd3e9c92394", func := "strongtx/strongtxlaw08.CellsFollow", spec := "cellsFollow", inPlace := ["(*internal/sync.Mutex).Lock", "internal/race.Disable", "sync/atomic.CompareAndSwapInt32", "internal/race.Enable", "internal/race.Acquire", "(*internal/sync.Mutex).lockSlow", "internal/sync.runtime_canSpin", "internal/sync.runtime_doSpin", "internal/sync.throw", "internal/sync.runtime_nanotime", "internal/sync.runtime_SemacquireMutex", "sync/atomic.AddInt32", "(*internal/sync.Mutex).Unlock", "internal/race.ReleaseMerge", "(*internal/sync.Mutex).unlockSlow", "internal/sync.fatal", "internal/sync.runtime_Semrelease"], unfollowed := true, recurses := true, apart := false }
def CellsFollowSaid : Prop := cellsFollowRow.holds Try.pinned (OpenSpec.ofChange cellsFollowSpec)

/-- ITS FALSE NEIGHBOUR: 'it returns false'. Refute it at one input. -/
def cellsFollowWrong : ChangeSpec := { name := "cellsFollow", fn := fun _ => fun
  | [d1, d2, d3, d4] => { results := [.lit (.bool false)], args := [d1, d2, d3, d4] }
  | _ => none }
def CellsFollowWrongFalsely : Prop := cellsFollowRow.holds Try.pinned (OpenSpec.ofChange cellsFollowWrong)

/-- 'strongtxlaw09.EpochFences': WHATEVER THE INPUT: true; the input reads as it did. -/
def epochFencesSpec : ChangeSpec := { name := "epochFences", fn := fun _ => fun
  | [d1, d2, d3, d4, d5, d6] => { results := [.lit (.bool true)], args := [d1, d2, d3, d4, d5, d6] }
  | _ => none }
def epochFencesRow : OpenClaim := { program := "ytfondhajedkmbaa", sum := "aa315bc941e3545bc1fd39eaa25a1cb4eb731278b37d0412f6eccbd3e9c92394", func := "strongtx/strongtxlaw09.EpochFences", spec := "epochFences", inPlace := ["(*internal/sync.Mutex).Lock", "internal/race.Disable", "sync/atomic.CompareAndSwapInt32", "internal/race.Enable", "internal/race.Acquire", "(*internal/sync.Mutex).lockSlow", "internal/sync.runtime_canSpin", "internal/sync.runtime_doSpin", "internal/sync.throw", "internal/sync.runtime_nanotime", "internal/sync.runtime_SemacquireMutex", "sync/atomic.AddInt32", "(*internal/sync.Mutex).Unlock", "internal/race.ReleaseMerge", "(*internal/sync.Mutex).unlockSlow", "internal/sync.fatal", "internal/sync.runtime_Semrelease"], unfollowed := true, recurses := true, apart := false }
def EpochFencesSaid : Prop := epochFencesRow.holds Try.pinned (OpenSpec.ofChange epochFencesSpec)

/-- ITS FALSE NEIGHBOUR: 'it returns false'. Refute it at one input. -/
def epochFencesWrong : ChangeSpec := { name := "epochFences", fn := fun _ => fun
  | [d1, d2, d3, d4, d5, d6] => { results := [.lit (.bool false)], args := [d1, d2, d3, d4, d5, d6] }
  | _ => none }
def EpochFencesWrongFalsely : Prop := epochFencesRow.holds Try.pinned (OpenSpec.ofChange epochFencesWrong)

/-- 'strongtxlaw17.WriterFollows': WHATEVER THE INPUT: true; the input reads as it did. -/
def writerFollowsSpec : ChangeSpec := { name := "writerFollows", fn := fun _ => fun
  | [d1, d2] => { results := [.lit (.bool true)], args := [d1, d2] }
  | _ => none }
def writerFollowsRow : OpenClaim := { program := "ytfondhajedkmbaa", sum := "aa315bc941e3545bc1fd39eaa25a1cb4eb731278b37d0412f6eccbd3e9c92394", func := "strongtx/strongtxlaw17.WriterFollows", spec := "writerFollows", inPlace := ["(*internal/sync.Mutex).Lock", "internal/race.Disable", "sync/atomic.CompareAndSwapInt32", "internal/race.Enable", "internal/race.Acquire", "(*internal/sync.Mutex).lockSlow", "internal/sync.runtime_canSpin", "internal/sync.runtime_doSpin", "internal/sync.throw", "internal/sync.runtime_nanotime", "internal/sync.runtime_SemacquireMutex", "sync/atomic.AddInt32", "(*internal/sync.Mutex).Unlock", "internal/race.ReleaseMerge", "(*internal/sync.Mutex).unlockSlow", "internal/sync.fatal", "internal/sync.runtime_Semrelease"], unfollowed := true, recurses := true, apart := false }
def WriterFollowsSaid : Prop := writerFollowsRow.holds Try.pinned (OpenSpec.ofChange writerFollowsSpec)

/-- ITS FALSE NEIGHBOUR: 'it returns false'. Refute it at one input. -/
def writerFollowsWrong : ChangeSpec := { name := "writerFollows", fn := fun _ => fun
  | [d1, d2] => { results := [.lit (.bool false)], args := [d1, d2] }
  | _ => none }
def WriterFollowsWrongFalsely : Prop := writerFollowsRow.holds Try.pinned (OpenSpec.ofChange writerFollowsWrong)

/-- 'strongtxlaw17.WriterLast': WHATEVER THE INPUT: true; the input reads as it did. -/
def writerLastSpec : ChangeSpec := { name := "writerLast", fn := fun _ => fun
  | [d1, d2] => { results := [.lit (.bool true)], args := [d1, d2] }
  | _ => none }
def writerLastRow : OpenClaim := { program := "ytfondhajedkmbaa", sum := "aa315bc941e3545bc1fd39eaa25a1cb4eb731278b37d0412f6eccbd3e9c92394", func := "strongtx/strongtxlaw17.WriterLast", spec := "writerLast", inPlace := ["(*internal/sync.Mutex).Lock", "internal/race.Disable", "sync/atomic.CompareAndSwapInt32", "internal/race.Enable", "internal/race.Acquire", "(*internal/sync.Mutex).lockSlow", "internal/sync.runtime_canSpin", "internal/sync.runtime_doSpin", "internal/sync.throw", "internal/sync.runtime_nanotime", "internal/sync.runtime_SemacquireMutex", "sync/atomic.AddInt32", "(*internal/sync.Mutex).Unlock", "internal/race.ReleaseMerge", "(*internal/sync.Mutex).unlockSlow", "internal/sync.fatal", "internal/sync.runtime_Semrelease"], unfollowed := true, recurses := true, apart := false }
def WriterLastSaid : Prop := writerLastRow.holds Try.pinned (OpenSpec.ofChange writerLastSpec)

/-- ITS FALSE NEIGHBOUR: 'it returns false'. Refute it at one input. -/
def writerLastWrong : ChangeSpec := { name := "writerLast", fn := fun _ => fun
  | [d1, d2] => { results := [.lit (.bool false)], args := [d1, d2] }
  | _ => none }
def WriterLastWrongFalsely : Prop := writerLastRow.holds Try.pinned (OpenSpec.ofChange writerLastWrong)

/-- 'strongtxlaw17.WriterKeeps': WHATEVER THE INPUT: true; the input reads as it did. -/
def writerKeepsSpec : ChangeSpec := { name := "writerKeeps", fn := fun _ => fun
  | [d1, d2] => { results := [.lit (.bool true)], args := [d1, d2] }
  | _ => none }
def writerKeepsRow : OpenClaim := { program := "ytfondhajedkmbaa", sum := "aa315bc941e3545bc1fd39eaa25a1cb4eb731278b37d0412f6eccbd3e9c92394", func := "strongtx/strongtxlaw17.WriterKeeps", spec := "writerKeeps", inPlace := ["(*internal/sync.Mutex).Lock", "internal/race.Disable", "sync/atomic.CompareAndSwapInt32", "internal/race.Enable", "internal/race.Acquire", "(*internal/sync.Mutex).lockSlow", "internal/sync.runtime_canSpin", "internal/sync.runtime_doSpin", "internal/sync.throw", "internal/sync.runtime_nanotime", "internal/sync.runtime_SemacquireMutex", "sync/atomic.AddInt32", "(*internal/sync.Mutex).Unlock", "internal/race.ReleaseMerge", "(*internal/sync.Mutex).unlockSlow", "internal/sync.fatal", "internal/sync.runtime_Semrelease"], unfollowed := true, recurses := true, apart := false }
def WriterKeepsSaid : Prop := writerKeepsRow.holds Try.pinned (OpenSpec.ofChange writerKeepsSpec)

/-- ITS FALSE NEIGHBOUR: 'it returns false'. Refute it at one input. -/
def writerKeepsWrong : ChangeSpec := { name := "writerKeeps", fn := fun _ => fun
  | [d1, d2] => { results := [.lit (.bool false)], args := [d1, d2] }
  | _ => none }
def WriterKeepsWrongFalsely : Prop := writerKeepsRow.holds Try.pinned (OpenSpec.ofChange writerKeepsWrong)

/- THE SECOND FORM. 'bulk': how many values and letters a reading holds, each counted each time it is reached (what is shared counts as often as it is met; a slice's spare places count too). A statement '..UptoSaid' is the law's where the arguments, and the package variables that the reading takes, are together of bulk at most 1048576: NARROWER than '..Said'. Prove '..Said' where nothing that the law and all that it calls make is longer than what came in: it says more and counts as full. Else prove '..UptoSaid'. A law counts once. -/
mutual
def uptoBulk {H : Type} : DataW H → Nat
  | .lit (.string bytes) => bytes.length + 1
  | .lit _ => 1
  | .nil => 1
  | .ptr d => uptoBulk d + 1
  | .slice elems spare => uptoBulkAll elems + uptoBulkAll spare + 1
  | .agg parts => uptoBulkAll parts + 1
  | .iface _ d => uptoBulk d + 1
  | .map entries => uptoBulkEntries entries + 1
  | .held _ => 1
def uptoBulkAll {H : Type} : List (DataW H) → Nat
  | [] => 0
  | d :: r => uptoBulk d + uptoBulkAll r
def uptoBulkEntries {H : Type} : List (Lit × DataW H) → Nat
  | [] => 0
  | x :: r => uptoBulkEntry x + uptoBulkEntries r
def uptoBulkEntry {H : Type} : Lit × DataW H → Nat
  | (.string bytes, d) => bytes.length + uptoBulk d + 1
  | (_, d) => uptoBulk d + 1
 end
def uptoSmall : (H : Type) → List (DataW H) → Bool := fun _ ds => decide (uptoBulkAll ds ≤ 1048576)
def OpenSpec.upto (s : _root_.Go.ChangeSpec) : _root_.Go.OpenSpec := { _root_.Go.OpenSpec.ofChange s with cond := some uptoSmall }

/-- 'strongtxlaw08.CellsFollow', WHERE WHAT IT READS IS OF BULK AT MOST 1048576: true; the input reads as it did. -/
def cellsFollowUptoRow : OpenClaim := { program := "ytfondhajedkmbaa", sum := "aa315bc941e3545bc1fd39eaa25a1cb4eb731278b37d0412f6eccbd3e9c92394", func := "strongtx/strongtxlaw08.CellsFollow", spec := "cellsFollow", inPlace := ["(*internal/sync.Mutex).Lock", "internal/race.Disable", "sync/atomic.CompareAndSwapInt32", "internal/race.Enable", "internal/race.Acquire", "(*internal/sync.Mutex).lockSlow", "internal/sync.runtime_canSpin", "internal/sync.runtime_doSpin", "internal/sync.throw", "internal/sync.runtime_nanotime", "internal/sync.runtime_SemacquireMutex", "sync/atomic.AddInt32", "(*internal/sync.Mutex).Unlock", "internal/race.ReleaseMerge", "(*internal/sync.Mutex).unlockSlow", "internal/sync.fatal", "internal/sync.runtime_Semrelease"], unfollowed := true, recurses := true, apart := false, narrowed := true }
def CellsFollowUptoSaid : Prop := cellsFollowUptoRow.holds Try.pinned (OpenSpec.upto cellsFollowSpec)

/-- 'strongtxlaw09.EpochFences', WHERE WHAT IT READS IS OF BULK AT MOST 1048576: true; the input reads as it did. -/
def epochFencesUptoRow : OpenClaim := { program := "ytfondhajedkmbaa", sum := "aa315bc941e3545bc1fd39eaa25a1cb4eb731278b37d0412f6eccbd3e9c92394", func := "strongtx/strongtxlaw09.EpochFences", spec := "epochFences", inPlace := ["(*internal/sync.Mutex).Lock", "internal/race.Disable", "sync/atomic.CompareAndSwapInt32", "internal/race.Enable", "internal/race.Acquire", "(*internal/sync.Mutex).lockSlow", "internal/sync.runtime_canSpin", "internal/sync.runtime_doSpin", "internal/sync.throw", "internal/sync.runtime_nanotime", "internal/sync.runtime_SemacquireMutex", "sync/atomic.AddInt32", "(*internal/sync.Mutex).Unlock", "internal/race.ReleaseMerge", "(*internal/sync.Mutex).unlockSlow", "internal/sync.fatal", "internal/sync.runtime_Semrelease"], unfollowed := true, recurses := true, apart := false, narrowed := true }
def EpochFencesUptoSaid : Prop := epochFencesUptoRow.holds Try.pinned (OpenSpec.upto epochFencesSpec)

/-- 'strongtxlaw17.WriterFollows', WHERE WHAT IT READS IS OF BULK AT MOST 1048576: true; the input reads as it did. -/
def writerFollowsUptoRow : OpenClaim := { program := "ytfondhajedkmbaa", sum := "aa315bc941e3545bc1fd39eaa25a1cb4eb731278b37d0412f6eccbd3e9c92394", func := "strongtx/strongtxlaw17.WriterFollows", spec := "writerFollows", inPlace := ["(*internal/sync.Mutex).Lock", "internal/race.Disable", "sync/atomic.CompareAndSwapInt32", "internal/race.Enable", "internal/race.Acquire", "(*internal/sync.Mutex).lockSlow", "internal/sync.runtime_canSpin", "internal/sync.runtime_doSpin", "internal/sync.throw", "internal/sync.runtime_nanotime", "internal/sync.runtime_SemacquireMutex", "sync/atomic.AddInt32", "(*internal/sync.Mutex).Unlock", "internal/race.ReleaseMerge", "(*internal/sync.Mutex).unlockSlow", "internal/sync.fatal", "internal/sync.runtime_Semrelease"], unfollowed := true, recurses := true, apart := false, narrowed := true }
def WriterFollowsUptoSaid : Prop := writerFollowsUptoRow.holds Try.pinned (OpenSpec.upto writerFollowsSpec)

/-- 'strongtxlaw17.WriterLast', WHERE WHAT IT READS IS OF BULK AT MOST 1048576: true; the input reads as it did. -/
def writerLastUptoRow : OpenClaim := { program := "ytfondhajedkmbaa", sum := "aa315bc941e3545bc1fd39eaa25a1cb4eb731278b37d0412f6eccbd3e9c92394", func := "strongtx/strongtxlaw17.WriterLast", spec := "writerLast", inPlace := ["(*internal/sync.Mutex).Lock", "internal/race.Disable", "sync/atomic.CompareAndSwapInt32", "internal/race.Enable", "internal/race.Acquire", "(*internal/sync.Mutex).lockSlow", "internal/sync.runtime_canSpin", "internal/sync.runtime_doSpin", "internal/sync.throw", "internal/sync.runtime_nanotime", "internal/sync.runtime_SemacquireMutex", "sync/atomic.AddInt32", "(*internal/sync.Mutex).Unlock", "internal/race.ReleaseMerge", "(*internal/sync.Mutex).unlockSlow", "internal/sync.fatal", "internal/sync.runtime_Semrelease"], unfollowed := true, recurses := true, apart := false, narrowed := true }
def WriterLastUptoSaid : Prop := writerLastUptoRow.holds Try.pinned (OpenSpec.upto writerLastSpec)

/-- 'strongtxlaw17.WriterKeeps', WHERE WHAT IT READS IS OF BULK AT MOST 1048576: true; the input reads as it did. -/
def writerKeepsUptoRow : OpenClaim := { program := "ytfondhajedkmbaa", sum := "aa315bc941e3545bc1fd39eaa25a1cb4eb731278b37d0412f6eccbd3e9c92394", func := "strongtx/strongtxlaw17.WriterKeeps", spec := "writerKeeps", inPlace := ["(*internal/sync.Mutex).Lock", "internal/race.Disable", "sync/atomic.CompareAndSwapInt32", "internal/race.Enable", "internal/race.Acquire", "(*internal/sync.Mutex).lockSlow", "internal/sync.runtime_canSpin", "internal/sync.runtime_doSpin", "internal/sync.throw", "internal/sync.runtime_nanotime", "internal/sync.runtime_SemacquireMutex", "sync/atomic.AddInt32", "(*internal/sync.Mutex).Unlock", "internal/race.ReleaseMerge", "(*internal/sync.Mutex).unlockSlow", "internal/sync.fatal", "internal/sync.runtime_Semrelease"], unfollowed := true, recurses := true, apart := false, narrowed := true }
def WriterKeepsUptoSaid : Prop := writerKeepsUptoRow.holds Try.pinned (OpenSpec.upto writerKeepsSpec)

end Rows
end Go.Proofs.Ytfondhajedkmbaa
