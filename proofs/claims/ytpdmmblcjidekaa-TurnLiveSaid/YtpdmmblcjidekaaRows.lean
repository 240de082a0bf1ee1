/-
  No cell of these rows narrows 'for every input' (looked for: loops, veiled, ifaces, maps, wideKeys, modest, calm, conditions, laid).
  DERIVED. THE GIVEN ROWS OF THIS SEAT. 12 by the template 'for every input the law returns true; each argument reads behind the call as it read before'; 0 by the template 'total and deterministic' (their statements: YtpdmmblcjidekaaTotals.lean).
  GIVEN WITH THE SEED: the statements are not yours to turn. If you find one false, say at which input.
  Laid BY PROGRAM, IN A SANDBOX (cutbox-rows.mjs): the forced cells as the released guide's own fill.sh prints them over the translation 0bc704cec43152d6… (all of the seat's roots in one cut). By AI agents, Wed Nov 11 2026. No macro, syntax, notation, axiom, sorry.
-/
import Derived.Test.YtpdmmblcjidekaaChecked
import GoSem.Claim
import GoSem.ClaimJoined
import GoSem.ClaimMapViews
import Derived.JoinedTies
import Derived.KernelRfl
namespace Go.Proofs.Ytpdmmblcjidekaa
/- THE CELL 'sum', in the pinned program and in every row, IS THE sha256 OF THE DUMP (.gsa) THAT YtpdmmblcjidekaaProg.lean LOADS. Nothing in Lean hashes anything: it is a label: what it is worth is what the hold of that sum in a sandbox is worth. -/
noncomputable def Try.pinned : Pinned := { name := "ytpdmmblcjidekaa", sum := "0bc704cec43152d669ee8d18aa96b05b87830f3b24a4923c65f0cf788a69a21e", checked := Try.checked }
namespace Rows
def none {H : Type} : Left H := { results := [], args := [] }

/-- 'strongtxlaw07.LayoutNear': WHATEVER THE INPUT: true; the input reads as it did. -/
def layoutNearSpec : ChangeSpec := { name := "layoutNear", fn := fun _ => fun
  | [d1, d2, d3, d4, d5] => { results := [.lit (.bool true)], args := [d1, d2, d3, d4, d5] }
  | _ => none }
def layoutNearRow : OpenClaim := { program := "ytpdmmblcjidekaa", sum := "0bc704cec43152d669ee8d18aa96b05b87830f3b24a4923c65f0cf788a69a21e", func := "strongtx/strongtxlaw07.LayoutNear", spec := "layoutNear", apart := false }
def LayoutNearSaid : Prop := layoutNearRow.holds Try.pinned (OpenSpec.ofChange layoutNearSpec)

/-- ITS FALSE NEIGHBOUR: 'it returns false'. Refute it at one input. -/
def layoutNearWrong : ChangeSpec := { name := "layoutNear", fn := fun _ => fun
  | [d1, d2, d3, d4, d5] => { results := [.lit (.bool false)], args := [d1, d2, d3, d4, d5] }
  | _ => none }
def LayoutNearWrongFalsely : Prop := layoutNearRow.holds Try.pinned (OpenSpec.ofChange layoutNearWrong)

/-- 'strongtxlaw08.CellsFollow': WHATEVER THE INPUT: true; the input reads as it did. -/
def cellsFollowSpec : ChangeSpec := { name := "cellsFollow", fn := fun _ => fun
  | [d1, d2, d3, d4] => { results := [.lit (.bool true)], args := [d1, d2, d3, d4] }
  | _ => none }
def cellsFollowRow : OpenClaim := { program := "ytpdmmblcjidekaa", sum := "0bc704cec43152d669ee8d18aa96b05b87830f3b24a4923c65f0cf788a69a21e", func := "strongtx/strongtxlaw08.CellsFollow", spec := "cellsFollow", inPlace := ["(*internal/sync.Mutex).Lock", "internal/race.Disable", "sync/atomic.CompareAndSwapInt32", "internal/race.Enable", "internal/race.Acquire", "(*internal/sync.Mutex).lockSlow", "internal/sync.runtime_canSpin", "internal/sync.runtime_doSpin", "internal/sync.throw", "internal/sync.runtime_nanotime", "internal/sync.runtime_SemacquireMutex", "sync/atomic.AddInt32", "(*internal/sync.Mutex).Unlock", "internal/race.ReleaseMerge", "(*internal/sync.Mutex).unlockSlow", "internal/sync.fatal", "internal/sync.runtime_Semrelease"], unfollowed := true, recurses := true, apart := false }
def CellsFollowSaid : Prop := cellsFollowRow.holds Try.pinned (OpenSpec.ofChange cellsFollowSpec)

/-- ITS FALSE NEIGHBOUR: 'it returns false'. Refute it at one input. -/
def cellsFollowWrong : ChangeSpec := { name := "cellsFollow", fn := fun _ => fun
  | [d1, d2, d3, d4] => { results := [.lit (.bool false)], args := [d1, d2, d3, d4] }
  | _ => none }
def CellsFollowWrongFalsely : Prop := cellsFollowRow.holds Try.pinned (OpenSpec.ofChange cellsFollowWrong)

/-- 'strongtxlaw08.CellsCounts': WHATEVER THE INPUT: true; the input reads as it did. -/
def cellsCountsSpec : ChangeSpec := { name := "cellsCounts", fn := fun _ => fun
  | [d1, d2] => { results := [.lit (.bool true)], args := [d1, d2] }
  | _ => none }
def cellsCountsRow : OpenClaim := { program := "ytpdmmblcjidekaa", sum := "0bc704cec43152d669ee8d18aa96b05b87830f3b24a4923c65f0cf788a69a21e", func := "strongtx/strongtxlaw08.CellsCounts", spec := "cellsCounts", inPlace := ["(*internal/sync.Mutex).Lock", "internal/race.Disable", "sync/atomic.CompareAndSwapInt32", "internal/race.Enable", "internal/race.Acquire", "(*internal/sync.Mutex).lockSlow", "internal/sync.runtime_canSpin", "internal/sync.runtime_doSpin", "internal/sync.throw", "internal/sync.runtime_nanotime", "internal/sync.runtime_SemacquireMutex", "sync/atomic.AddInt32", "(*internal/sync.Mutex).Unlock", "internal/race.ReleaseMerge", "(*internal/sync.Mutex).unlockSlow", "internal/sync.fatal", "internal/sync.runtime_Semrelease"], unfollowed := true, recurses := true, apart := false }
def CellsCountsSaid : Prop := cellsCountsRow.holds Try.pinned (OpenSpec.ofChange cellsCountsSpec)

/-- ITS FALSE NEIGHBOUR: 'it returns false'. Refute it at one input. -/
def cellsCountsWrong : ChangeSpec := { name := "cellsCounts", fn := fun _ => fun
  | [d1, d2] => { results := [.lit (.bool false)], args := [d1, d2] }
  | _ => none }
def CellsCountsWrongFalsely : Prop := cellsCountsRow.holds Try.pinned (OpenSpec.ofChange cellsCountsWrong)

/-- 'strongtxlaw09.EpochEnters': WHATEVER THE INPUT: true; the input reads as it did. -/
def epochEntersSpec : ChangeSpec := { name := "epochEnters", fn := fun _ => fun
  | [d1, d2, d3] => { results := [.lit (.bool true)], args := [d1, d2, d3] }
  | _ => none }
def epochEntersRow : OpenClaim := { program := "ytpdmmblcjidekaa", sum := "0bc704cec43152d669ee8d18aa96b05b87830f3b24a4923c65f0cf788a69a21e", func := "strongtx/strongtxlaw09.EpochEnters", spec := "epochEnters", inPlace := ["(*internal/sync.Mutex).Lock", "internal/race.Disable", "sync/atomic.CompareAndSwapInt32", "internal/race.Enable", "internal/race.Acquire", "(*internal/sync.Mutex).lockSlow", "internal/sync.runtime_canSpin", "internal/sync.runtime_doSpin", "internal/sync.throw", "internal/sync.runtime_nanotime", "internal/sync.runtime_SemacquireMutex", "sync/atomic.AddInt32", "(*internal/sync.Mutex).Unlock", "internal/race.ReleaseMerge", "(*internal/sync.Mutex).unlockSlow", "internal/sync.fatal", "internal/sync.runtime_Semrelease"], unfollowed := true, recurses := true, apart := false }
def EpochEntersSaid : Prop := epochEntersRow.holds Try.pinned (OpenSpec.ofChange epochEntersSpec)

/-- ITS FALSE NEIGHBOUR: 'it returns false'. Refute it at one input. -/
def epochEntersWrong : ChangeSpec := { name := "epochEnters", fn := fun _ => fun
  | [d1, d2, d3] => { results := [.lit (.bool false)], args := [d1, d2, d3] }
  | _ => none }
def EpochEntersWrongFalsely : Prop := epochEntersRow.holds Try.pinned (OpenSpec.ofChange epochEntersWrong)

/-- 'strongtxlaw09.EpochFences': WHATEVER THE INPUT: true; the input reads as it did. -/
def epochFencesSpec : ChangeSpec := { name := "epochFences", fn := fun _ => fun
  | [d1, d2, d3, d4, d5, d6] => { results := [.lit (.bool true)], args := [d1, d2, d3, d4, d5, d6] }
  | _ => none }
def epochFencesRow : OpenClaim := { program := "ytpdmmblcjidekaa", sum := "0bc704cec43152d669ee8d18aa96b05b87830f3b24a4923c65f0cf788a69a21e", func := "strongtx/strongtxlaw09.EpochFences", spec := "epochFences", inPlace := ["(*internal/sync.Mutex).Lock", "internal/race.Disable", "sync/atomic.CompareAndSwapInt32", "internal/race.Enable", "internal/race.Acquire", "(*internal/sync.Mutex).lockSlow", "internal/sync.runtime_canSpin", "internal/sync.runtime_doSpin", "internal/sync.throw", "internal/sync.runtime_nanotime", "internal/sync.runtime_SemacquireMutex", "sync/atomic.AddInt32", "(*internal/sync.Mutex).Unlock", "internal/race.ReleaseMerge", "(*internal/sync.Mutex).unlockSlow", "internal/sync.fatal", "internal/sync.runtime_Semrelease"], unfollowed := true, recurses := true, apart := false }
def EpochFencesSaid : Prop := epochFencesRow.holds Try.pinned (OpenSpec.ofChange epochFencesSpec)

/-- ITS FALSE NEIGHBOUR: 'it returns false'. Refute it at one input. -/
def epochFencesWrong : ChangeSpec := { name := "epochFences", fn := fun _ => fun
  | [d1, d2, d3, d4, d5, d6] => { results := [.lit (.bool false)], args := [d1, d2, d3, d4, d5, d6] }
  | _ => none }
def EpochFencesWrongFalsely : Prop := epochFencesRow.holds Try.pinned (OpenSpec.ofChange epochFencesWrong)

/-- 'strongtxlaw09.EpochIdle': WHATEVER THE INPUT: true; the input reads as it did. -/
def epochIdleSpec : ChangeSpec := { name := "epochIdle", fn := fun _ => fun
  | [d1, d2] => { results := [.lit (.bool true)], args := [d1, d2] }
  | _ => none }
def epochIdleRow : OpenClaim := { program := "ytpdmmblcjidekaa", sum := "0bc704cec43152d669ee8d18aa96b05b87830f3b24a4923c65f0cf788a69a21e", func := "strongtx/strongtxlaw09.EpochIdle", spec := "epochIdle", inPlace := ["(*internal/sync.Mutex).Lock", "internal/race.Disable", "sync/atomic.CompareAndSwapInt32", "internal/race.Enable", "internal/race.Acquire", "(*internal/sync.Mutex).lockSlow", "internal/sync.runtime_canSpin", "internal/sync.runtime_doSpin", "internal/sync.throw", "internal/sync.runtime_nanotime", "internal/sync.runtime_SemacquireMutex", "sync/atomic.AddInt32", "(*internal/sync.Mutex).Unlock", "internal/race.ReleaseMerge", "(*internal/sync.Mutex).unlockSlow", "internal/sync.fatal", "internal/sync.runtime_Semrelease"], unfollowed := true, recurses := true, apart := false }
def EpochIdleSaid : Prop := epochIdleRow.holds Try.pinned (OpenSpec.ofChange epochIdleSpec)

/-- ITS FALSE NEIGHBOUR: 'it returns false'. Refute it at one input. -/
def epochIdleWrong : ChangeSpec := { name := "epochIdle", fn := fun _ => fun
  | [d1, d2] => { results := [.lit (.bool false)], args := [d1, d2] }
  | _ => none }
def EpochIdleWrongFalsely : Prop := epochIdleRow.holds Try.pinned (OpenSpec.ofChange epochIdleWrong)

/-- 'strongtxlaw09.EpochGrace': WHATEVER THE INPUT: true; the input reads as it did. -/
def epochGraceSpec : ChangeSpec := { name := "epochGrace", fn := fun _ => fun
  | [d1, d2] => { results := [.lit (.bool true)], args := [d1, d2] }
  | _ => none }
def epochGraceRow : OpenClaim := { program := "ytpdmmblcjidekaa", sum := "0bc704cec43152d669ee8d18aa96b05b87830f3b24a4923c65f0cf788a69a21e", func := "strongtx/strongtxlaw09.EpochGrace", spec := "epochGrace", inPlace := ["(*internal/sync.Mutex).Lock", "internal/race.Disable", "sync/atomic.CompareAndSwapInt32", "internal/race.Enable", "internal/race.Acquire", "(*internal/sync.Mutex).lockSlow", "internal/sync.runtime_canSpin", "internal/sync.runtime_doSpin", "internal/sync.throw", "internal/sync.runtime_nanotime", "internal/sync.runtime_SemacquireMutex", "sync/atomic.AddInt32", "(*internal/sync.Mutex).Unlock", "internal/race.ReleaseMerge", "(*internal/sync.Mutex).unlockSlow", "internal/sync.fatal", "internal/sync.runtime_Semrelease"], unfollowed := true, recurses := true, apart := false }
def EpochGraceSaid : Prop := epochGraceRow.holds Try.pinned (OpenSpec.ofChange epochGraceSpec)

/-- ITS FALSE NEIGHBOUR: 'it returns false'. Refute it at one input. -/
def epochGraceWrong : ChangeSpec := { name := "epochGrace", fn := fun _ => fun
  | [d1, d2] => { results := [.lit (.bool false)], args := [d1, d2] }
  | _ => none }
def EpochGraceWrongFalsely : Prop := epochGraceRow.holds Try.pinned (OpenSpec.ofChange epochGraceWrong)

/-- 'strongtxlaw09.EpochSlots': WHATEVER THE INPUT: true; the input reads as it did. -/
def epochSlotsSpec : ChangeSpec := { name := "epochSlots", fn := fun _ => fun
  | [d1, d2, d3] => { results := [.lit (.bool true)], args := [d1, d2, d3] }
  | _ => none }
def epochSlotsRow : OpenClaim := { program := "ytpdmmblcjidekaa", sum := "0bc704cec43152d669ee8d18aa96b05b87830f3b24a4923c65f0cf788a69a21e", func := "strongtx/strongtxlaw09.EpochSlots", spec := "epochSlots", inPlace := ["(*internal/sync.Mutex).Lock", "internal/race.Disable", "sync/atomic.CompareAndSwapInt32", "internal/race.Enable", "internal/race.Acquire", "(*internal/sync.Mutex).lockSlow", "internal/sync.runtime_canSpin", "internal/sync.runtime_doSpin", "internal/sync.throw", "internal/sync.runtime_nanotime", "internal/sync.runtime_SemacquireMutex", "sync/atomic.AddInt32", "(*internal/sync.Mutex).Unlock", "internal/race.ReleaseMerge", "(*internal/sync.Mutex).unlockSlow", "internal/sync.fatal", "internal/sync.runtime_Semrelease"], unfollowed := true, recurses := true, apart := false }
def EpochSlotsSaid : Prop := epochSlotsRow.holds Try.pinned (OpenSpec.ofChange epochSlotsSpec)

/-- ITS FALSE NEIGHBOUR: 'it returns false'. Refute it at one input. -/
def epochSlotsWrong : ChangeSpec := { name := "epochSlots", fn := fun _ => fun
  | [d1, d2, d3] => { results := [.lit (.bool false)], args := [d1, d2, d3] }
  | _ => none }
def EpochSlotsWrongFalsely : Prop := epochSlotsRow.holds Try.pinned (OpenSpec.ofChange epochSlotsWrong)

/-- 'strongtxlaw10.TurnFollows': WHATEVER THE INPUT: true; the input reads as it did. -/
def turnFollowsSpec : ChangeSpec := { name := "turnFollows", fn := fun _ => fun
  | [d1, d2, d3, d4] => { results := [.lit (.bool true)], args := [d1, d2, d3, d4] }
  | _ => none }
def turnFollowsRow : OpenClaim := { program := "ytpdmmblcjidekaa", sum := "0bc704cec43152d669ee8d18aa96b05b87830f3b24a4923c65f0cf788a69a21e", func := "strongtx/strongtxlaw10.TurnFollows", spec := "turnFollows", inPlace := ["(*internal/sync.Mutex).Lock", "internal/race.Disable", "sync/atomic.CompareAndSwapInt32", "internal/race.Enable", "internal/race.Acquire", "(*internal/sync.Mutex).lockSlow", "internal/sync.runtime_canSpin", "internal/sync.runtime_doSpin", "internal/sync.throw", "internal/sync.runtime_nanotime", "internal/sync.runtime_SemacquireMutex", "sync/atomic.AddInt32", "(*internal/sync.Mutex).Unlock", "internal/race.ReleaseMerge", "(*internal/sync.Mutex).unlockSlow", "internal/sync.fatal", "internal/sync.runtime_Semrelease"], unfollowed := true, recurses := true, apart := false }
def TurnFollowsSaid : Prop := turnFollowsRow.holds Try.pinned (OpenSpec.ofChange turnFollowsSpec)

/-- ITS FALSE NEIGHBOUR: 'it returns false'. Refute it at one input. -/
def turnFollowsWrong : ChangeSpec := { name := "turnFollows", fn := fun _ => fun
  | [d1, d2, d3, d4] => { results := [.lit (.bool false)], args := [d1, d2, d3, d4] }
  | _ => none }
def TurnFollowsWrongFalsely : Prop := turnFollowsRow.holds Try.pinned (OpenSpec.ofChange turnFollowsWrong)

/-- 'strongtxlaw10.TurnExcludes': WHATEVER THE INPUT: true; the input reads as it did. -/
def turnExcludesSpec : ChangeSpec := { name := "turnExcludes", fn := fun _ => fun
  | [d1, d2] => { results := [.lit (.bool true)], args := [d1, d2] }
  | _ => none }
def turnExcludesRow : OpenClaim := { program := "ytpdmmblcjidekaa", sum := "0bc704cec43152d669ee8d18aa96b05b87830f3b24a4923c65f0cf788a69a21e", func := "strongtx/strongtxlaw10.TurnExcludes", spec := "turnExcludes", inPlace := ["(*internal/sync.Mutex).Lock", "internal/race.Disable", "sync/atomic.CompareAndSwapInt32", "internal/race.Enable", "internal/race.Acquire", "(*internal/sync.Mutex).lockSlow", "internal/sync.runtime_canSpin", "internal/sync.runtime_doSpin", "internal/sync.throw", "internal/sync.runtime_nanotime", "internal/sync.runtime_SemacquireMutex", "sync/atomic.AddInt32", "(*internal/sync.Mutex).Unlock", "internal/race.ReleaseMerge", "(*internal/sync.Mutex).unlockSlow", "internal/sync.fatal", "internal/sync.runtime_Semrelease"], unfollowed := true, recurses := true, apart := false }
def TurnExcludesSaid : Prop := turnExcludesRow.holds Try.pinned (OpenSpec.ofChange turnExcludesSpec)

/-- ITS FALSE NEIGHBOUR: 'it returns false'. Refute it at one input. -/
def turnExcludesWrong : ChangeSpec := { name := "turnExcludes", fn := fun _ => fun
  | [d1, d2] => { results := [.lit (.bool false)], args := [d1, d2] }
  | _ => none }
def TurnExcludesWrongFalsely : Prop := turnExcludesRow.holds Try.pinned (OpenSpec.ofChange turnExcludesWrong)

/-- 'strongtxlaw10.TurnLive': WHATEVER THE INPUT: true; the input reads as it did. -/
def turnLiveSpec : ChangeSpec := { name := "turnLive", fn := fun _ => fun
  | [d1, d2] => { results := [.lit (.bool true)], args := [d1, d2] }
  | _ => none }
def turnLiveRow : OpenClaim := { program := "ytpdmmblcjidekaa", sum := "0bc704cec43152d669ee8d18aa96b05b87830f3b24a4923c65f0cf788a69a21e", func := "strongtx/strongtxlaw10.TurnLive", spec := "turnLive", inPlace := ["(*internal/sync.Mutex).Lock", "internal/race.Disable", "sync/atomic.CompareAndSwapInt32", "internal/race.Enable", "internal/race.Acquire", "(*internal/sync.Mutex).lockSlow", "internal/sync.runtime_canSpin", "internal/sync.runtime_doSpin", "internal/sync.throw", "internal/sync.runtime_nanotime", "internal/sync.runtime_SemacquireMutex", "sync/atomic.AddInt32", "(*internal/sync.Mutex).Unlock", "internal/race.ReleaseMerge", "(*internal/sync.Mutex).unlockSlow", "internal/sync.fatal", "internal/sync.runtime_Semrelease"], unfollowed := true, recurses := true, apart := false }
def TurnLiveSaid : Prop := turnLiveRow.holds Try.pinned (OpenSpec.ofChange turnLiveSpec)

/-- ITS FALSE NEIGHBOUR: 'it returns false'. Refute it at one input. -/
def turnLiveWrong : ChangeSpec := { name := "turnLive", fn := fun _ => fun
  | [d1, d2] => { results := [.lit (.bool false)], args := [d1, d2] }
  | _ => none }
def TurnLiveWrongFalsely : Prop := turnLiveRow.holds Try.pinned (OpenSpec.ofChange turnLiveWrong)

/-- 'strongtxlaw10.TurnTickets': WHATEVER THE INPUT: true; the input reads as it did. -/
def turnTicketsSpec : ChangeSpec := { name := "turnTickets", fn := fun _ => fun
  | [d1, d2] => { results := [.lit (.bool true)], args := [d1, d2] }
  | _ => none }
def turnTicketsRow : OpenClaim := { program := "ytpdmmblcjidekaa", sum := "0bc704cec43152d669ee8d18aa96b05b87830f3b24a4923c65f0cf788a69a21e", func := "strongtx/strongtxlaw10.TurnTickets", spec := "turnTickets", inPlace := ["(*internal/sync.Mutex).Lock", "internal/race.Disable", "sync/atomic.CompareAndSwapInt32", "internal/race.Enable", "internal/race.Acquire", "(*internal/sync.Mutex).lockSlow", "internal/sync.runtime_canSpin", "internal/sync.runtime_doSpin", "internal/sync.throw", "internal/sync.runtime_nanotime", "internal/sync.runtime_SemacquireMutex", "sync/atomic.AddInt32", "(*internal/sync.Mutex).Unlock", "internal/race.ReleaseMerge", "(*internal/sync.Mutex).unlockSlow", "internal/sync.fatal", "internal/sync.runtime_Semrelease"], unfollowed := true, recurses := true, apart := false }
def TurnTicketsSaid : Prop := turnTicketsRow.holds Try.pinned (OpenSpec.ofChange turnTicketsSpec)

/-- ITS FALSE NEIGHBOUR: 'it returns false'. Refute it at one input. -/
def turnTicketsWrong : ChangeSpec := { name := "turnTickets", fn := fun _ => fun
  | [d1, d2] => { results := [.lit (.bool false)], args := [d1, d2] }
  | _ => none }
def TurnTicketsWrongFalsely : Prop := turnTicketsRow.holds Try.pinned (OpenSpec.ofChange turnTicketsWrong)

/- THE SECOND FORM. 'bulk': how many values and letters a reading holds, each counted each time it is reached (what is shared counts as often as it is met; a slice's spare places count too). A statement '..UptoSaid' is the law's where the arguments, and the package variables that the reading takes, are together of bulk at most 1048576: NARROWER than '..Said'. Prove '..Said' where nothing that the law and all that it calls make is longer than what came in: it says more and counts as full. Else prove '..UptoSaid'. A law counts once. -/
mutual
def uptoBulk {H : Type} : DataW H → Nat
  | .lit (.string bytes) => bytes.length + 1
  | .lit _ => 1
  | .nil => 1
  | .ptr d => uptoBulk d + 1
  | .slice elems spare => uptoBulkAll elems + uptoBulkAll spare + 1
  | .agg parts => uptoBulkAll parts + 1
  | .iface _ d => uptoBulk d + 1
  | .map entries => uptoBulkEntries entries + 1
  | .held _ => 1
def uptoBulkAll {H : Type} : List (DataW H) → Nat
  | [] => 0
  | d :: r => uptoBulk d + uptoBulkAll r
def uptoBulkEntries {H : Type} : List (Lit × DataW H) → Nat
  | [] => 0
  | x :: r => uptoBulkEntry x + uptoBulkEntries r
def uptoBulkEntry {H : Type} : Lit × DataW H → Nat
  | (.string bytes, d) => bytes.length + uptoBulk d + 1
  | (_, d) => uptoBulk d + 1
 end
def uptoSmall : (H : Type) → List (DataW H) → Bool := fun _ ds => decide (uptoBulkAll ds ≤ 1048576)
def OpenSpec.upto (s : _root_.Go.ChangeSpec) : _root_.Go.OpenSpec := { _root_.Go.OpenSpec.ofChange s with cond := some uptoSmall }

/-- 'strongtxlaw07.LayoutNear', WHERE WHAT IT READS IS OF BULK AT MOST 1048576: true; the input reads as it did. -/
def layoutNearUptoRow : OpenClaim := { program := "ytpdmmblcjidekaa", sum := "0bc704cec43152d669ee8d18aa96b05b87830f3b24a4923c65f0cf788a69a21e", func := "strongtx/strongtxlaw07.LayoutNear", spec := "layoutNear", apart := false, narrowed := true }
def LayoutNearUptoSaid : Prop := layoutNearUptoRow.holds Try.pinned (OpenSpec.upto layoutNearSpec)

/-- 'strongtxlaw08.CellsFollow', WHERE WHAT IT READS IS OF BULK AT MOST 1048576: true; the input reads as it did. -/
def cellsFollowUptoRow : OpenClaim := { program := "ytpdmmblcjidekaa", sum := "0bc704cec43152d669ee8d18aa96b05b87830f3b24a4923c65f0cf788a69a21e", func := "strongtx/strongtxlaw08.CellsFollow", spec := "cellsFollow", inPlace := ["(*internal/sync.Mutex).Lock", "internal/race.Disable", "sync/atomic.CompareAndSwapInt32", "internal/race.Enable", "internal/race.Acquire", "(*internal/sync.Mutex).lockSlow", "internal/sync.runtime_canSpin", "internal/sync.runtime_doSpin", "internal/sync.throw", "internal/sync.runtime_nanotime", "internal/sync.runtime_SemacquireMutex", "sync/atomic.AddInt32", "(*internal/sync.Mutex).Unlock", "internal/race.ReleaseMerge", "(*internal/sync.Mutex).unlockSlow", "internal/sync.fatal", "internal/sync.runtime_Semrelease"], unfollowed := true, recurses := true, apart := false, narrowed := true }
def CellsFollowUptoSaid : Prop := cellsFollowUptoRow.holds Try.pinned (OpenSpec.upto cellsFollowSpec)

/-- 'strongtxlaw08.CellsCounts', WHERE WHAT IT READS IS OF BULK AT MOST 1048576: true; the input reads as it did. -/
def cellsCountsUptoRow : OpenClaim := { program := "ytpdmmblcjidekaa", sum := "0bc704cec43152d669ee8d18aa96b05b87830f3b24a4923c65f0cf788a69a21e", func := "strongtx/strongtxlaw08.CellsCounts", spec := "cellsCounts", inPlace := ["(*internal/sync.Mutex).Lock", "internal/race.Disable", "sync/atomic.CompareAndSwapInt32", "internal/race.Enable", "internal/race.Acquire", "(*internal/sync.Mutex).lockSlow", "internal/sync.runtime_canSpin", "internal/sync.runtime_doSpin", "internal/sync.throw", "internal/sync.runtime_nanotime", "internal/sync.runtime_SemacquireMutex", "sync/atomic.AddInt32", "(*internal/sync.Mutex).Unlock", "internal/race.ReleaseMerge", "(*internal/sync.Mutex).unlockSlow", "internal/sync.fatal", "internal/sync.runtime_Semrelease"], unfollowed := true, recurses := true, apart := false, narrowed := true }
def CellsCountsUptoSaid : Prop := cellsCountsUptoRow.holds Try.pinned (OpenSpec.upto cellsCountsSpec)

/-- 'strongtxlaw09.EpochEnters', WHERE WHAT IT READS IS OF BULK AT MOST 1048576: true; the input reads as it did. -/
def epochEntersUptoRow : OpenClaim := { program := "ytpdmmblcjidekaa", sum := "0bc704cec43152d669ee8d18aa96b05b87830f3b24a4923c65f0cf788a69a21e", func := "strongtx/strongtxlaw09.EpochEnters", spec := "epochEnters", inPlace := ["(*internal/sync.Mutex).Lock", "internal/race.Disable", "sync/atomic.CompareAndSwapInt32", "internal/race.Enable", "internal/race.Acquire", "(*internal/sync.Mutex).lockSlow", "internal/sync.runtime_canSpin", "internal/sync.runtime_doSpin", "internal/sync.throw", "internal/sync.runtime_nanotime", "internal/sync.runtime_SemacquireMutex", "sync/atomic.AddInt32", "(*internal/sync.Mutex).Unlock", "internal/race.ReleaseMerge", "(*internal/sync.Mutex).unlockSlow", "internal/sync.fatal", "internal/sync.runtime_Semrelease"], unfollowed := true, recurses := true, apart := false, narrowed := true }
def EpochEntersUptoSaid : Prop := epochEntersUptoRow.holds Try.pinned (OpenSpec.upto epochEntersSpec)

/-- 'strongtxlaw09.EpochFences', WHERE WHAT IT READS IS OF BULK AT MOST 1048576: true; the input reads as it did. -/
def epochFencesUptoRow : OpenClaim := { program := "ytpdmmblcjidekaa", sum := "0bc704cec43152d669ee8d18aa96b05b87830f3b24a4923c65f0cf788a69a21e", func := "strongtx/strongtxlaw09.EpochFences", spec := "epochFences", inPlace := ["(*internal/sync.Mutex).Lock", "internal/race.Disable", "sync/atomic.CompareAndSwapInt32", "internal/race.Enable", "internal/race.Acquire", "(*internal/sync.Mutex).lockSlow", "internal/sync.runtime_canSpin", "internal/sync.runtime_doSpin", "internal/sync.throw", "internal/sync.runtime_nanotime", "internal/sync.runtime_SemacquireMutex", "sync/atomic.AddInt32", "(*internal/sync.Mutex).Unlock", "internal/race.ReleaseMerge", "(*internal/sync.Mutex).unlockSlow", "internal/sync.fatal", "internal/sync.runtime_Semrelease"], unfollowed := true, recurses := true, apart := false, narrowed := true }
def EpochFencesUptoSaid : Prop := epochFencesUptoRow.holds Try.pinned (OpenSpec.upto epochFencesSpec)

/-- 'strongtxlaw09.EpochIdle', WHERE WHAT IT READS IS OF BULK AT MOST 1048576: true; the input reads as it did. -/
def epochIdleUptoRow : OpenClaim := { program := "ytpdmmblcjidekaa", sum := "0bc704cec43152d669ee8d18aa96b05b87830f3b24a4923c65f0cf788a69a21e", func := "strongtx/strongtxlaw09.EpochIdle", spec := "epochIdle", inPlace := ["(*internal/sync.Mutex).Lock", "internal/race.Disable", "sync/atomic.CompareAndSwapInt32", "internal/race.Enable", "internal/race.Acquire", "(*internal/sync.Mutex).lockSlow", "internal/sync.runtime_canSpin", "internal/sync.runtime_doSpin", "internal/sync.throw", "internal/sync.runtime_nanotime", "internal/sync.runtime_SemacquireMutex", "sync/atomic.AddInt32", "(*internal/sync.Mutex).Unlock", "internal/race.ReleaseMerge", "(*internal/sync.Mutex).unlockSlow", "internal/sync.fatal", "internal/sync.runtime_Semrelease"], unfollowed := true, recurses := true, apart := false, narrowed := true }
def EpochIdleUptoSaid : Prop := epochIdleUptoRow.holds Try.pinned (OpenSpec.upto epochIdleSpec)

/-- 'strongtxlaw09.EpochGrace', WHERE WHAT IT READS IS OF BULK AT MOST 1048576: true; the input reads as it did. -/
def epochGraceUptoRow : OpenClaim := { program := "ytpdmmblcjidekaa", sum := "0bc704cec43152d669ee8d18aa96b05b87830f3b24a4923c65f0cf788a69a21e", func := "strongtx/strongtxlaw09.EpochGrace", spec := "epochGrace", inPlace := ["(*internal/sync.Mutex).Lock", "internal/race.Disable", "sync/atomic.CompareAndSwapInt32", "internal/race.Enable", "internal/race.Acquire", "(*internal/sync.Mutex).lockSlow", "internal/sync.runtime_canSpin", "internal/sync.runtime_doSpin", "internal/sync.throw", "internal/sync.runtime_nanotime", "internal/sync.runtime_SemacquireMutex", "sync/atomic.AddInt32", "(*internal/sync.Mutex).Unlock", "internal/race.ReleaseMerge", "(*internal/sync.Mutex).unlockSlow", "internal/sync.fatal", "internal/sync.runtime_Semrelease"], unfollowed := true, recurses := true, apart := false, narrowed := true }
def EpochGraceUptoSaid : Prop := epochGraceUptoRow.holds Try.pinned (OpenSpec.upto epochGraceSpec)

/-- 'strongtxlaw09.EpochSlots', WHERE WHAT IT READS IS OF BULK AT MOST 1048576: true; the input reads as it did. -/
def epochSlotsUptoRow : OpenClaim := { program := "ytpdmmblcjidekaa", sum := "0bc704cec43152d669ee8d18aa96b05b87830f3b24a4923c65f0cf788a69a21e", func := "strongtx/strongtxlaw09.EpochSlots", spec := "epochSlots", inPlace := ["(*internal/sync.Mutex).Lock", "internal/race.Disable", "sync/atomic.CompareAndSwapInt32", "internal/race.Enable", "internal/race.Acquire", "(*internal/sync.Mutex).lockSlow", "internal/sync.runtime_canSpin", "internal/sync.runtime_doSpin", "internal/sync.throw", "internal/sync.runtime_nanotime", "internal/sync.runtime_SemacquireMutex", "sync/atomic.AddInt32", "(*internal/sync.Mutex).Unlock", "internal/race.ReleaseMerge", "(*internal/sync.Mutex).unlockSlow", "internal/sync.fatal", "internal/sync.runtime_Semrelease"], unfollowed := true, recurses := true, apart := false, narrowed := true }
def EpochSlotsUptoSaid : Prop := epochSlotsUptoRow.holds Try.pinned (OpenSpec.upto epochSlotsSpec)

/-- 'strongtxlaw10.TurnFollows', WHERE WHAT IT READS IS OF BULK AT MOST 1048576: true; the input reads as it did. -/
def turnFollowsUptoRow : OpenClaim := { program := "ytpdmmblcjidekaa", sum := "0bc704cec43152d669ee8d18aa96b05b87830f3b24a4923c65f0cf788a69a21e", func := "strongtx/strongtxlaw10.TurnFollows", spec := "turnFollows", inPlace := ["(*internal/sync.Mutex).Lock", "internal/race.Disable", "sync/atomic.CompareAndSwapInt32", "internal/race.Enable", "internal/race.Acquire", "(*internal/sync.Mutex).lockSlow", "internal/sync.runtime_canSpin", "internal/sync.runtime_doSpin", "internal/sync.throw", "internal/sync.runtime_nanotime", "internal/sync.runtime_SemacquireMutex", "sync/atomic.AddInt32", "(*internal/sync.Mutex).Unlock", "internal/race.ReleaseMerge", "(*internal/sync.Mutex).unlockSlow", "internal/sync.fatal", "internal/sync.runtime_Semrelease"], unfollowed := true, recurses := true, apart := false, narrowed := true }
def TurnFollowsUptoSaid : Prop := turnFollowsUptoRow.holds Try.pinned (OpenSpec.upto turnFollowsSpec)

/-- 'strongtxlaw10.TurnExcludes', WHERE WHAT IT READS IS OF BULK AT MOST 1048576: true; the input reads as it did. -/
def turnExcludesUptoRow : OpenClaim := { program := "ytpdmmblcjidekaa", sum := "0bc704cec43152d669ee8d18aa96b05b87830f3b24a4923c65f0cf788a69a21e", func := "strongtx/strongtxlaw10.TurnExcludes", spec := "turnExcludes", inPlace := ["(*internal/sync.Mutex).Lock", "internal/race.Disable", "sync/atomic.CompareAndSwapInt32", "internal/race.Enable", "internal/race.Acquire", "(*internal/sync.Mutex).lockSlow", "internal/sync.runtime_canSpin", "internal/sync.runtime_doSpin", "internal/sync.throw", "internal/sync.runtime_nanotime", "internal/sync.runtime_SemacquireMutex", "sync/atomic.AddInt32", "(*internal/sync.Mutex).Unlock", "internal/race.ReleaseMerge", "(*internal/sync.Mutex).unlockSlow", "internal/sync.fatal", "internal/sync.runtime_Semrelease"], unfollowed := true, recurses := true, apart := false, narrowed := true }
def TurnExcludesUptoSaid : Prop := turnExcludesUptoRow.holds Try.pinned (OpenSpec.upto turnExcludesSpec)

/-- 'strongtxlaw10.TurnLive', WHERE WHAT IT READS IS OF BULK AT MOST 1048576: true; the input reads as it did. -/
def turnLiveUptoRow : OpenClaim := { program := "ytpdmmblcjidekaa", sum := "0bc704cec43152d669ee8d18aa96b05b87830f3b24a4923c65f0cf788a69a21e", func := "strongtx/strongtxlaw10.TurnLive", spec := "turnLive", inPlace := ["(*internal/sync.Mutex).Lock", "internal/race.Disable", "sync/atomic.CompareAndSwapInt32", "internal/race.Enable", "internal/race.Acquire", "(*internal/sync.Mutex).lockSlow", "internal/sync.runtime_canSpin", "internal/sync.runtime_doSpin", "internal/sync.throw", "internal/sync.runtime_nanotime", "internal/sync.runtime_SemacquireMutex", "sync/atomic.AddInt32", "(*internal/sync.Mutex).Unlock", "internal/race.ReleaseMerge", "(*internal/sync.Mutex).unlockSlow", "internal/sync.fatal", "internal/sync.runtime_Semrelease"], unfollowed := true, recurses := true, apart := false, narrowed := true }
def TurnLiveUptoSaid : Prop := turnLiveUptoRow.holds Try.pinned (OpenSpec.upto turnLiveSpec)

/-- 'strongtxlaw10.TurnTickets', WHERE WHAT IT READS IS OF BULK AT MOST 1048576: true; the input reads as it did. -/
def turnTicketsUptoRow : OpenClaim := { program := "ytpdmmblcjidekaa", sum := "0bc704cec43152d669ee8d18aa96b05b87830f3b24a4923c65f0cf788a69a21e", func := "strongtx/strongtxlaw10.TurnTickets", spec := "turnTickets", inPlace := ["(*internal/sync.Mutex).Lock", "internal/race.Disable", "sync/atomic.CompareAndSwapInt32", "internal/race.Enable", "internal/race.Acquire", "(*internal/sync.Mutex).lockSlow", "internal/sync.runtime_canSpin", "internal/sync.runtime_doSpin", "internal/sync.throw", "internal/sync.runtime_nanotime", "internal/sync.runtime_SemacquireMutex", "sync/atomic.AddInt32", "(*internal/sync.Mutex).Unlock", "internal/race.ReleaseMerge", "(*internal/sync.Mutex).unlockSlow", "internal/sync.fatal", "internal/sync.runtime_Semrelease"], unfollowed := true, recurses := true, apart := false, narrowed := true }
def TurnTicketsUptoSaid : Prop := turnTicketsUptoRow.holds Try.pinned (OpenSpec.upto turnTicketsSpec)

end Rows
end Go.Proofs.Ytpdmmblcjidekaa
