/-
  No cell of these rows narrows 'for every input' (looked for: loops, veiled, ifaces, maps, wideKeys, modest, calm, conditions, laid).
  DERIVED. THE GIVEN ROWS OF THIS SEAT. 7 by the template 'for every input the law returns true; each argument reads behind the call as it read before'; 0 by the template 'total and deterministic' (their statements: YtpjbmbipkmpkhaaTotals.lean).
  GIVEN WITH THE SEED: the statements are not yours to turn. If you find one false, say at which input.
  Laid BY PROGRAM, IN A SANDBOX (cutbox-rows.mjs): the forced cells as the released guide's own fill.sh prints them over the translation 76bb310730f54890… (all of the seat's roots in one cut). By AI agents, Wed Nov 11 2026. No macro, syntax, notation, axiom, sorry.
-/
import Derived.Test.YtpjbmbipkmpkhaaChecked
import GoSem.Claim
import GoSem.ClaimJoined
import GoSem.ClaimMapViews
import Derived.JoinedTies
import Derived.KernelRfl
namespace Go.Proofs.Ytpjbmbipkmpkhaa
/- THE CELL 'sum', in the pinned program and in every row, IS THE sha256 OF THE DUMP (.gsa) THAT YtpjbmbipkmpkhaaProg.lean LOADS. Nothing in Lean hashes anything: it is a label: what it is worth is what the hold of that sum in a sandbox is worth. -/
noncomputable def Try.pinned : Pinned := { name := "ytpjbmbipkmpkhaa", sum := "76bb310730f548900ca839882ae359409f156fae3e3a1ce2c5327d4ed6f3db11", checked := Try.checked }
namespace Rows
def none {H : Type} : Left H := { results := [], args := [] }

/-- 'strongtxlaw08.CellsFollow': WHATEVER THE INPUT: true; the input reads as it did. -/
def cellsFollowSpec : ChangeSpec := { name := "cellsFollow", fn := fun _ => fun
  | [d1, d2, d3, d4] => { results := [.lit (.bool true)], args := [d1, d2, d3, d4] }
  | _ => none }
def cellsFollowRow : OpenClaim := { program := "ytpjbmbipkmpkhaa", sum := "76bb310730f548900ca839882ae359409f156fae3e3a1ce2c5327d4ed6f3db11", func := "strongtx/strongtxlaw08.CellsFollow", spec := "cellsFollow", inPlace := ["(*internal/sync.Mutex).Lock", "internal/race.Disable", "sync/atomic.CompareAndSwapInt32", "internal/race.Enable", "internal/race.Acquire", "(*internal/sync.Mutex).lockSlow", "internal/sync.runtime_canSpin", "internal/sync.runtime_doSpin", "internal/sync.throw", "internal/sync.runtime_nanotime", "internal/sync.runtime_SemacquireMutex", "sync/atomic.AddInt32", "(*internal/sync.Mutex).Unlock", "internal/race.ReleaseMerge", "(*internal/sync.Mutex).unlockSlow", "internal/sync.fatal", "internal/sync.runtime_Semrelease"], unfollowed := true, recurses := true, apart := false }
def CellsFollowSaid : Prop := cellsFollowRow.holds Try.pinned (OpenSpec.ofChange cellsFollowSpec)

/-- ITS FALSE NEIGHBOUR: 'it returns false'. Refute it at one input. -/
def cellsFollowWrong : ChangeSpec := { name := "cellsFollow", fn := fun _ => fun
  | [d1, d2, d3, d4] => { results := [.lit (.bool false)], args := [d1, d2, d3, d4] }
  | _ => none }
def CellsFollowWrongFalsely : Prop := cellsFollowRow.holds Try.pinned (OpenSpec.ofChange cellsFollowWrong)

/-- 'strongtxlaw09.EpochFences': WHATEVER THE INPUT: true; the input reads as it did. -/
def epochFencesSpec : ChangeSpec := { name := "epochFences", fn := fun _ => fun
  | [d1, d2, d3, d4, d5, d6] => { results := [.lit (.bool true)], args := [d1, d2, d3, d4, d5, d6] }
  | _ => none }
def epochFencesRow : OpenClaim := { program := "ytpjbmbipkmpkhaa", sum := "76bb310730f548900ca839882ae359409f156fae3e3a1ce2c5327d4ed6f3db11", func := "strongtx/strongtxlaw09.EpochFences", spec := "epochFences", inPlace := ["(*internal/sync.Mutex).Lock", "internal/race.Disable", "sync/atomic.CompareAndSwapInt32", "internal/race.Enable", "internal/race.Acquire", "(*internal/sync.Mutex).lockSlow", "internal/sync.runtime_canSpin", "internal/sync.runtime_doSpin", "internal/sync.throw", "internal/sync.runtime_nanotime", "internal/sync.runtime_SemacquireMutex", "sync/atomic.AddInt32", "(*internal/sync.Mutex).Unlock", "internal/race.ReleaseMerge", "(*internal/sync.Mutex).unlockSlow", "internal/sync.fatal", "internal/sync.runtime_Semrelease"], unfollowed := true, recurses := true, apart := false }
def EpochFencesSaid : Prop := epochFencesRow.holds Try.pinned (OpenSpec.ofChange epochFencesSpec)

/-- ITS FALSE NEIGHBOUR: 'it returns false'. Refute it at one input. -/
def epochFencesWrong : ChangeSpec := { name := "epochFences", fn := fun _ => fun
  | [d1, d2, d3, d4, d5, d6] => { results := [.lit (.bool false)], args := [d1, d2, d3, d4, d5, d6] }
  | _ => none }
def EpochFencesWrongFalsely : Prop := epochFencesRow.holds Try.pinned (OpenSpec.ofChange epochFencesWrong)

/-- 'strongtxlaw11.FreelistFollows': WHATEVER THE INPUT: true; the input reads as it did. -/
def freelistFollowsSpec : ChangeSpec := { name := "freelistFollows", fn := fun _ => fun
  | [d1, d2] => { results := [.lit (.bool true)], args := [d1, d2] }
  | _ => none }
def freelistFollowsRow : OpenClaim := { program := "ytpjbmbipkmpkhaa", sum := "76bb310730f548900ca839882ae359409f156fae3e3a1ce2c5327d4ed6f3db11", func := "strongtx/strongtxlaw11.FreelistFollows", spec := "freelistFollows", inPlace := ["(*internal/sync.Mutex).Lock", "internal/race.Disable", "sync/atomic.CompareAndSwapInt32", "internal/race.Enable", "internal/race.Acquire", "(*internal/sync.Mutex).lockSlow", "internal/sync.runtime_canSpin", "internal/sync.runtime_doSpin", "internal/sync.throw", "internal/sync.runtime_nanotime", "internal/sync.runtime_SemacquireMutex", "sync/atomic.AddInt32", "(*internal/sync.Mutex).Unlock", "internal/race.ReleaseMerge", "(*internal/sync.Mutex).unlockSlow", "internal/sync.fatal", "internal/sync.runtime_Semrelease"], unfollowed := true, recurses := true, apart := false }
def FreelistFollowsSaid : Prop := freelistFollowsRow.holds Try.pinned (OpenSpec.ofChange freelistFollowsSpec)

/-- ITS FALSE NEIGHBOUR: 'it returns false'. Refute it at one input. -/
def freelistFollowsWrong : ChangeSpec := { name := "freelistFollows", fn := fun _ => fun
  | [d1, d2] => { results := [.lit (.bool false)], args := [d1, d2] }
  | _ => none }
def FreelistFollowsWrongFalsely : Prop := freelistFollowsRow.holds Try.pinned (OpenSpec.ofChange freelistFollowsWrong)

/-- 'strongtxlaw11.FreelistLists': WHATEVER THE INPUT: true; the input reads as it did. -/
def freelistListsSpec : ChangeSpec := { name := "freelistLists", fn := fun _ => fun
  | [d1, d2, d3, d4, d5] => { results := [.lit (.bool true)], args := [d1, d2, d3, d4, d5] }
  | _ => none }
def freelistListsRow : OpenClaim := { program := "ytpjbmbipkmpkhaa", sum := "76bb310730f548900ca839882ae359409f156fae3e3a1ce2c5327d4ed6f3db11", func := "strongtx/strongtxlaw11.FreelistLists", spec := "freelistLists", inPlace := ["(*internal/sync.Mutex).Lock", "internal/race.Disable", "sync/atomic.CompareAndSwapInt32", "internal/race.Enable", "internal/race.Acquire", "(*internal/sync.Mutex).lockSlow", "internal/sync.runtime_canSpin", "internal/sync.runtime_doSpin", "internal/sync.throw", "internal/sync.runtime_nanotime", "internal/sync.runtime_SemacquireMutex", "sync/atomic.AddInt32", "(*internal/sync.Mutex).Unlock", "internal/race.ReleaseMerge", "(*internal/sync.Mutex).unlockSlow", "internal/sync.fatal", "internal/sync.runtime_Semrelease"], unfollowed := true, recurses := true, apart := false }
def FreelistListsSaid : Prop := freelistListsRow.holds Try.pinned (OpenSpec.ofChange freelistListsSpec)

/-- ITS FALSE NEIGHBOUR: 'it returns false'. Refute it at one input. -/
def freelistListsWrong : ChangeSpec := { name := "freelistLists", fn := fun _ => fun
  | [d1, d2, d3, d4, d5] => { results := [.lit (.bool false)], args := [d1, d2, d3, d4, d5] }
  | _ => none }
def FreelistListsWrongFalsely : Prop := freelistListsRow.holds Try.pinned (OpenSpec.ofChange freelistListsWrong)

/-- 'strongtxlaw18.LimboFollows': WHATEVER THE INPUT: true; the input reads as it did. -/
def limboFollowsSpec : ChangeSpec := { name := "limboFollows", fn := fun _ => fun
  | [d] => { results := [.lit (.bool true)], args := [d] }
  | _ => none }
def limboFollowsRow : OpenClaim := { program := "ytpjbmbipkmpkhaa", sum := "76bb310730f548900ca839882ae359409f156fae3e3a1ce2c5327d4ed6f3db11", func := "strongtx/strongtxlaw18.LimboFollows", spec := "limboFollows", inPlace := ["(*internal/sync.Mutex).Lock", "internal/race.Disable", "sync/atomic.CompareAndSwapInt32", "internal/race.Enable", "internal/race.Acquire", "(*internal/sync.Mutex).lockSlow", "internal/sync.runtime_canSpin", "internal/sync.runtime_doSpin", "internal/sync.throw", "internal/sync.runtime_nanotime", "internal/sync.runtime_SemacquireMutex", "sync/atomic.AddInt32", "(*internal/sync.Mutex).Unlock", "internal/race.ReleaseMerge", "(*internal/sync.Mutex).unlockSlow", "internal/sync.fatal", "internal/sync.runtime_Semrelease"], unfollowed := true, recurses := true, apart := false }
def LimboFollowsSaid : Prop := limboFollowsRow.holds Try.pinned (OpenSpec.ofChange limboFollowsSpec)

/-- ITS FALSE NEIGHBOUR: 'it returns false'. Refute it at one input. -/
def limboFollowsWrong : ChangeSpec := { name := "limboFollows", fn := fun _ => fun
  | [d] => { results := [.lit (.bool false)], args := [d] }
  | _ => none }
def LimboFollowsWrongFalsely : Prop := limboFollowsRow.holds Try.pinned (OpenSpec.ofChange limboFollowsWrong)

/-- 'strongtxlaw18.LimboKeeps': WHATEVER THE INPUT: true; the input reads as it did. -/
def limboKeepsSpec : ChangeSpec := { name := "limboKeeps", fn := fun _ => fun
  | [d] => { results := [.lit (.bool true)], args := [d] }
  | _ => none }
def limboKeepsRow : OpenClaim := { program := "ytpjbmbipkmpkhaa", sum := "76bb310730f548900ca839882ae359409f156fae3e3a1ce2c5327d4ed6f3db11", func := "strongtx/strongtxlaw18.LimboKeeps", spec := "limboKeeps", inPlace := ["(*internal/sync.Mutex).Lock", "internal/race.Disable", "sync/atomic.CompareAndSwapInt32", "internal/race.Enable", "internal/race.Acquire", "(*internal/sync.Mutex).lockSlow", "internal/sync.runtime_canSpin", "internal/sync.runtime_doSpin", "internal/sync.throw", "internal/sync.runtime_nanotime", "internal/sync.runtime_SemacquireMutex", "sync/atomic.AddInt32", "(*internal/sync.Mutex).Unlock", "internal/race.ReleaseMerge", "(*internal/sync.Mutex).unlockSlow", "internal/sync.fatal", "internal/sync.runtime_Semrelease"], unfollowed := true, recurses := true, apart := false }
def LimboKeepsSaid : Prop := limboKeepsRow.holds Try.pinned (OpenSpec.ofChange limboKeepsSpec)

/-- ITS FALSE NEIGHBOUR: 'it returns false'. Refute it at one input. -/
def limboKeepsWrong : ChangeSpec := { name := "limboKeeps", fn := fun _ => fun
  | [d] => { results := [.lit (.bool false)], args := [d] }
  | _ => none }
def LimboKeepsWrongFalsely : Prop := limboKeepsRow.holds Try.pinned (OpenSpec.ofChange limboKeepsWrong)

/-- 'strongtxlaw18.LimboClasses': WHATEVER THE INPUT: true; the input reads as it did. -/
def limboClassesSpec : ChangeSpec := { name := "limboClasses", fn := fun _ => fun
  | [d] => { results := [.lit (.bool true)], args := [d] }
  | _ => none }
def limboClassesRow : OpenClaim := { program := "ytpjbmbipkmpkhaa", sum := "76bb310730f548900ca839882ae359409f156fae3e3a1ce2c5327d4ed6f3db11", func := "strongtx/strongtxlaw18.LimboClasses", spec := "limboClasses", inPlace := ["(*internal/sync.Mutex).Lock", "internal/race.Disable", "sync/atomic.CompareAndSwapInt32", "internal/race.Enable", "internal/race.Acquire", "(*internal/sync.Mutex).lockSlow", "internal/sync.runtime_canSpin", "internal/sync.runtime_doSpin", "internal/sync.throw", "internal/sync.runtime_nanotime", "internal/sync.runtime_SemacquireMutex", "sync/atomic.AddInt32", "(*internal/sync.Mutex).Unlock", "internal/race.ReleaseMerge", "(*internal/sync.Mutex).unlockSlow", "internal/sync.fatal", "internal/sync.runtime_Semrelease"], unfollowed := true, recurses := true, apart := false }
def LimboClassesSaid : Prop := limboClassesRow.holds Try.pinned (OpenSpec.ofChange limboClassesSpec)

/-- ITS FALSE NEIGHBOUR: 'it returns false'. Refute it at one input. -/
def limboClassesWrong : ChangeSpec := { name := "limboClasses", fn := fun _ => fun
  | [d] => { results := [.lit (.bool false)], args := [d] }
  | _ => none }
def LimboClassesWrongFalsely : Prop := limboClassesRow.holds Try.pinned (OpenSpec.ofChange limboClassesWrong)

/- THE SECOND FORM. 'bulk': how many values and letters a reading holds, each counted each time it is reached (what is shared counts as often as it is met; a slice's spare places count too). A statement '..UptoSaid' is the law's where the arguments, and the package variables that the reading takes, are together of bulk at most 1048576: NARROWER than '..Said'. Prove '..Said' where nothing that the law and all that it calls make is longer than what came in: it says more and counts as full. Else prove '..UptoSaid'. A law counts once. -/
mutual
def uptoBulk {H : Type} : DataW H → Nat
  | .lit (.string bytes) => bytes.length + 1
  | .lit _ => 1
  | .nil => 1
  | .ptr d => uptoBulk d + 1
  | .slice elems spare => uptoBulkAll elems + uptoBulkAll spare + 1
  | .agg parts => uptoBulkAll parts + 1
  | .iface _ d => uptoBulk d + 1
  | .map entries => uptoBulkEntries entries + 1
  | .held _ => 1
def uptoBulkAll {H : Type} : List (DataW H) → Nat
  | [] => 0
  | d :: r => uptoBulk d + uptoBulkAll r
def uptoBulkEntries {H : Type} : List (Lit × DataW H) → Nat
  | [] => 0
  | x :: r => uptoBulkEntry x + uptoBulkEntries r
def uptoBulkEntry {H : Type} : Lit × DataW H → Nat
  | (.string bytes, d) => bytes.length + uptoBulk d + 1
  | (_, d) => uptoBulk d + 1
 end
def uptoSmall : (H : Type) → List (DataW H) → Bool := fun _ ds => decide (uptoBulkAll ds ≤ 1048576)
def OpenSpec.upto (s : _root_.Go.ChangeSpec) : _root_.Go.OpenSpec := { _root_.Go.OpenSpec.ofChange s with cond := some uptoSmall }

/-- 'strongtxlaw08.CellsFollow', WHERE WHAT IT READS IS OF BULK AT MOST 1048576: true; the input reads as it did. -/
def cellsFollowUptoRow : OpenClaim := { program := "ytpjbmbipkmpkhaa", sum := "76bb310730f548900ca839882ae359409f156fae3e3a1ce2c5327d4ed6f3db11", func := "strongtx/strongtxlaw08.CellsFollow", spec := "cellsFollow", inPlace := ["(*internal/sync.Mutex).Lock", "internal/race.Disable", "sync/atomic.CompareAndSwapInt32", "internal/race.Enable", "internal/race.Acquire", "(*internal/sync.Mutex).lockSlow", "internal/sync.runtime_canSpin", "internal/sync.runtime_doSpin", "internal/sync.throw", "internal/sync.runtime_nanotime", "internal/sync.runtime_SemacquireMutex", "sync/atomic.AddInt32", "(*internal/sync.Mutex).Unlock", "internal/race.ReleaseMerge", "(*internal/sync.Mutex).unlockSlow", "internal/sync.fatal", "internal/sync.runtime_Semrelease"], unfollowed := true, recurses := true, apart := false, narrowed := true }
def CellsFollowUptoSaid : Prop := cellsFollowUptoRow.holds Try.pinned (OpenSpec.upto cellsFollowSpec)

/-- 'strongtxlaw09.EpochFences', WHERE WHAT IT READS IS OF BULK AT MOST 1048576: true; the input reads as it did. -/
def epochFencesUptoRow : OpenClaim := { program := "ytpjbmbipkmpkhaa", sum := "76bb310730f548900ca839882ae359409f156fae3e3a1ce2c5327d4ed6f3db11", func := "strongtx/strongtxlaw09.EpochFences", spec := "epochFences", inPlace := ["(*internal/sync.Mutex).Lock", "internal/race.Disable", "sync/atomic.CompareAndSwapInt32", "internal/race.Enable", "internal/race.Acquire", "(*internal/sync.Mutex).lockSlow", "internal/sync.runtime_canSpin", "internal/sync.runtime_doSpin", "internal/sync.throw", "internal/sync.runtime_nanotime", "internal/sync.runtime_SemacquireMutex", "sync/atomic.AddInt32", "(*internal/sync.Mutex).Unlock", "internal/race.ReleaseMerge", "(*internal/sync.Mutex).unlockSlow", "internal/sync.fatal", "internal/sync.runtime_Semrelease"], unfollowed := true, recurses := true, apart := false, narrowed := true }
def EpochFencesUptoSaid : Prop := epochFencesUptoRow.holds Try.pinned (OpenSpec.upto epochFencesSpec)

/-- 'strongtxlaw11.FreelistFollows', WHERE WHAT IT READS IS OF BULK AT MOST 1048576: true; the input reads as it did. -/
def freelistFollowsUptoRow : OpenClaim := { program := "ytpjbmbipkmpkhaa", sum := "76bb310730f548900ca839882ae359409f156fae3e3a1ce2c5327d4ed6f3db11", func := "strongtx/strongtxlaw11.FreelistFollows", spec := "freelistFollows", inPlace := ["(*internal/sync.Mutex).Lock", "internal/race.Disable", "sync/atomic.CompareAndSwapInt32", "internal/race.Enable", "internal/race.Acquire", "(*internal/sync.Mutex).lockSlow", "internal/sync.runtime_canSpin", "internal/sync.runtime_doSpin", "internal/sync.throw", "internal/sync.runtime_nanotime", "internal/sync.runtime_SemacquireMutex", "sync/atomic.AddInt32", "(*internal/sync.Mutex).Unlock", "internal/race.ReleaseMerge", "(*internal/sync.Mutex).unlockSlow", "internal/sync.fatal", "internal/sync.runtime_Semrelease"], unfollowed := true, recurses := true, apart := false, narrowed := true }
def FreelistFollowsUptoSaid : Prop := freelistFollowsUptoRow.holds Try.pinned (OpenSpec.upto freelistFollowsSpec)

/-- 'strongtxlaw11.FreelistLists', WHERE WHAT IT READS IS OF BULK AT MOST 1048576: true; the input reads as it did. -/
def freelistListsUptoRow : OpenClaim := { program := "ytpjbmbipkmpkhaa", sum := "76bb310730f548900ca839882ae359409f156fae3e3a1ce2c5327d4ed6f3db11", func := "strongtx/strongtxlaw11.FreelistLists", spec := "freelistLists", inPlace := ["(*internal/sync.Mutex).Lock", "internal/race.Disable", "sync/atomic.CompareAndSwapInt32", "internal/race.Enable", "internal/race.Acquire", "(*internal/sync.Mutex).lockSlow", "internal/sync.runtime_canSpin", "internal/sync.runtime_doSpin", "internal/sync.throw", "internal/sync.runtime_nanotime", "internal/sync.runtime_SemacquireMutex", "sync/atomic.AddInt32", "(*internal/sync.Mutex).Unlock", "internal/race.ReleaseMerge", "(*internal/sync.Mutex).unlockSlow", "internal/sync.fatal", "internal/sync.runtime_Semrelease"], unfollowed := true, recurses := true, apart := false, narrowed := true }
def FreelistListsUptoSaid : Prop := freelistListsUptoRow.holds Try.pinned (OpenSpec.upto freelistListsSpec)

/-- 'strongtxlaw18.LimboFollows', WHERE WHAT IT READS IS OF BULK AT MOST 1048576: true; the input reads as it did. -/
def limboFollowsUptoRow : OpenClaim := { program := "ytpjbmbipkmpkhaa", sum := "76bb310730f548900ca839882ae359409f156fae3e3a1ce2c5327d4ed6f3db11", func := "strongtx/strongtxlaw18.LimboFollows", spec := "limboFollows", inPlace := ["(*internal/sync.Mutex).Lock", "internal/race.Disable", "sync/atomic.CompareAndSwapInt32", "internal/race.Enable", "internal/race.Acquire", "(*internal/sync.Mutex).lockSlow", "internal/sync.runtime_canSpin", "internal/sync.runtime_doSpin", "internal/sync.throw", "internal/sync.runtime_nanotime", "internal/sync.runtime_SemacquireMutex", "sync/atomic.AddInt32", "(*internal/sync.Mutex).Unlock", "internal/race.ReleaseMerge", "(*internal/sync.Mutex).unlockSlow", "internal/sync.fatal", "internal/sync.runtime_Semrelease"], unfollowed := true, recurses := true, apart := false, narrowed := true }
def LimboFollowsUptoSaid : Prop := limboFollowsUptoRow.holds Try.pinned (OpenSpec.upto limboFollowsSpec)

/-- 'strongtxlaw18.LimboKeeps', WHERE WHAT IT READS IS OF BULK AT MOST 1048576: true; the input reads as it did. -/
def limboKeepsUptoRow : OpenClaim := { program := "ytpjbmbipkmpkhaa", sum := "76bb310730f548900ca839882ae359409f156fae3e3a1ce2c5327d4ed6f3db11", func := "strongtx/strongtxlaw18.LimboKeeps", spec := "limboKeeps", inPlace := ["(*internal/sync.Mutex).Lock", "internal/race.Disable", "sync/atomic.CompareAndSwapInt32", "internal/race.Enable", "internal/race.Acquire", "(*internal/sync.Mutex).lockSlow", "internal/sync.runtime_canSpin", "internal/sync.runtime_doSpin", "internal/sync.throw", "internal/sync.runtime_nanotime", "internal/sync.runtime_SemacquireMutex", "sync/atomic.AddInt32", "(*internal/sync.Mutex).Unlock", "internal/race.ReleaseMerge", "(*internal/sync.Mutex).unlockSlow", "internal/sync.fatal", "internal/sync.runtime_Semrelease"], unfollowed := true, recurses := true, apart := false, narrowed := true }
def LimboKeepsUptoSaid : Prop := limboKeepsUptoRow.holds Try.pinned (OpenSpec.upto limboKeepsSpec)

/-- 'strongtxlaw18.LimboClasses', WHERE WHAT IT READS IS OF BULK AT MOST 1048576: true; the input reads as it did. -/
def limboClassesUptoRow : OpenClaim := { program := "ytpjbmbipkmpkhaa", sum := "76bb310730f548900ca839882ae359409f156fae3e3a1ce2c5327d4ed6f3db11", func := "strongtx/strongtxlaw18.LimboClasses", spec := "limboClasses", inPlace := ["(*internal/sync.Mutex).Lock", "internal/race.Disable", "sync/atomic.CompareAndSwapInt32", "internal/race.Enable", "internal/race.Acquire", "(*internal/sync.Mutex).lockSlow", "internal/sync.runtime_canSpin", "internal/sync.runtime_doSpin", "internal/sync.throw", "internal/sync.runtime_nanotime", "internal/sync.runtime_SemacquireMutex", "sync/atomic.AddInt32", "(*internal/sync.Mutex).Unlock", "internal/race.ReleaseMerge", "(*internal/sync.Mutex).unlockSlow", "internal/sync.fatal", "internal/sync.runtime_Semrelease"], unfollowed := true, recurses := true, apart := false, narrowed := true }
def LimboClassesUptoSaid : Prop := limboClassesUptoRow.holds Try.pinned (OpenSpec.upto limboClassesSpec)

end Rows
end Go.Proofs.Ytpjbmbipkmpkhaa
