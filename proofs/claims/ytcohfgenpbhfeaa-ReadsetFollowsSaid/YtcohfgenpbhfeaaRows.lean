/-
  No cell of these rows narrows 'for every input' (looked for: loops, veiled, ifaces, maps, wideKeys, modest, calm, conditions, laid).
  DERIVED. THE GIVEN ROWS OF THIS SEAT. 4 by the template 'for every input the law returns true; each argument reads behind the call as it read before'; 0 by the template 'total and deterministic' (their statements: YtcohfgenpbhfeaaTotals.lean).
  GIVEN WITH THE SEED: the statements are not yours to turn. If you find one false, say at which input.
  Laid BY PROGRAM, IN A SANDBOX (cutbox-rows.mjs): the forced cells as the released guide's own fill.sh prints them over the translation 45693a37a6001784… (all of the seat's roots in one cut). By AI agents, Wed Nov 11 2026. No macro, syntax, notation, axiom, sorry.
-/
import Derived.Test.YtcohfgenpbhfeaaChecked
import GoSem.Claim
import GoSem.ClaimJoined
import GoSem.ClaimMapViews
import Derived.JoinedTies
import Derived.KernelRfl
namespace Go.Proofs.Ytcohfgenpbhfeaa
/- THE CELL 'sum', in the pinned program and in every row, IS THE sha256 OF THE DUMP (.gsa) THAT YtcohfgenpbhfeaaProg.lean LOADS. Nothing in Lean hashes anything: it is a label: what it is worth is what the hold of that sum in a sandbox is worth. -/
noncomputable def Try.pinned : Pinned := { name := "ytcohfgenpbhfeaa", sum := "45693a37a6001784e30e57b7f16f68b8dbe9f6791ac93cada9b48e8c9201920f", checked := Try.checked }
namespace Rows
def none {H : Type} : Left H := { results := [], args := [] }

/-- 'strongtxlaw12.ReadsetFollows': WHATEVER THE INPUT: true; the input reads as it did. -/
def readsetFollowsSpec : ChangeSpec := { name := "readsetFollows", fn := fun _ => fun
  | [d1, d2, d3] => { results := [.lit (.bool true)], args := [d1, d2, d3] }
  | _ => none }
def readsetFollowsRow : OpenClaim := { program := "ytcohfgenpbhfeaa", sum := "45693a37a6001784e30e57b7f16f68b8dbe9f6791ac93cada9b48e8c9201920f", func := "strongtx/strongtxlaw12.ReadsetFollows", spec := "readsetFollows", apart := false }
def ReadsetFollowsSaid : Prop := readsetFollowsRow.holds Try.pinned (OpenSpec.ofChange readsetFollowsSpec)

/-- ITS FALSE NEIGHBOUR: 'it returns false'. Refute it at one input. -/
def readsetFollowsWrong : ChangeSpec := { name := "readsetFollows", fn := fun _ => fun
  | [d1, d2, d3] => { results := [.lit (.bool false)], args := [d1, d2, d3] }
  | _ => none }
def ReadsetFollowsWrongFalsely : Prop := readsetFollowsRow.holds Try.pinned (OpenSpec.ofChange readsetFollowsWrong)

/-- 'strongtxlaw12.ReadsetOnce': WHATEVER THE INPUT: true; the input reads as it did. -/
def readsetOnceSpec : ChangeSpec := { name := "readsetOnce", fn := fun _ => fun
  | [d1, d2] => { results := [.lit (.bool true)], args := [d1, d2] }
  | _ => none }
def readsetOnceRow : OpenClaim := { program := "ytcohfgenpbhfeaa", sum := "45693a37a6001784e30e57b7f16f68b8dbe9f6791ac93cada9b48e8c9201920f", func := "strongtx/strongtxlaw12.ReadsetOnce", spec := "readsetOnce", apart := false }
def ReadsetOnceSaid : Prop := readsetOnceRow.holds Try.pinned (OpenSpec.ofChange readsetOnceSpec)

/-- ITS FALSE NEIGHBOUR: 'it returns false'. Refute it at one input. -/
def readsetOnceWrong : ChangeSpec := { name := "readsetOnce", fn := fun _ => fun
  | [d1, d2] => { results := [.lit (.bool false)], args := [d1, d2] }
  | _ => none }
def ReadsetOnceWrongFalsely : Prop := readsetOnceRow.holds Try.pinned (OpenSpec.ofChange readsetOnceWrong)

/-- 'strongtxlaw12.ReadsetClears': WHATEVER THE INPUT: true; the input reads as it did. -/
def readsetClearsSpec : ChangeSpec := { name := "readsetClears", fn := fun _ => fun
  | [d1, d2] => { results := [.lit (.bool true)], args := [d1, d2] }
  | _ => none }
def readsetClearsRow : OpenClaim := { program := "ytcohfgenpbhfeaa", sum := "45693a37a6001784e30e57b7f16f68b8dbe9f6791ac93cada9b48e8c9201920f", func := "strongtx/strongtxlaw12.ReadsetClears", spec := "readsetClears", apart := false }
def ReadsetClearsSaid : Prop := readsetClearsRow.holds Try.pinned (OpenSpec.ofChange readsetClearsSpec)

/-- ITS FALSE NEIGHBOUR: 'it returns false'. Refute it at one input. -/
def readsetClearsWrong : ChangeSpec := { name := "readsetClears", fn := fun _ => fun
  | [d1, d2] => { results := [.lit (.bool false)], args := [d1, d2] }
  | _ => none }
def ReadsetClearsWrongFalsely : Prop := readsetClearsRow.holds Try.pinned (OpenSpec.ofChange readsetClearsWrong)

/-- 'strongtxlaw12.ReadsetLimits': WHATEVER THE INPUT: true; the input reads as it did. -/
def readsetLimitsSpec : ChangeSpec := { name := "readsetLimits", fn := fun _ => fun
  | [d] => { results := [.lit (.bool true)], args := [d] }
  | _ => none }
def readsetLimitsRow : OpenClaim := { program := "ytcohfgenpbhfeaa", sum := "45693a37a6001784e30e57b7f16f68b8dbe9f6791ac93cada9b48e8c9201920f", func := "strongtx/strongtxlaw12.ReadsetLimits", spec := "readsetLimits", apart := false }
def ReadsetLimitsSaid : Prop := readsetLimitsRow.holds Try.pinned (OpenSpec.ofChange readsetLimitsSpec)

/-- ITS FALSE NEIGHBOUR: 'it returns false'. Refute it at one input. -/
def readsetLimitsWrong : ChangeSpec := { name := "readsetLimits", fn := fun _ => fun
  | [d] => { results := [.lit (.bool false)], args := [d] }
  | _ => none }
def ReadsetLimitsWrongFalsely : Prop := readsetLimitsRow.holds Try.pinned (OpenSpec.ofChange readsetLimitsWrong)

/- THE SECOND FORM. 'bulk': how many values and letters a reading holds, each counted each time it is reached (what is shared counts as often as it is met; a slice's spare places count too). A statement '..UptoSaid' is the law's where the arguments, and the package variables that the reading takes, are together of bulk at most 1048576: NARROWER than '..Said'. Prove '..Said' where nothing that the law and all that it calls make is longer than what came in: it says more and counts as full. Else prove '..UptoSaid'. A law counts once. -/
mutual
def uptoBulk {H : Type} : DataW H → Nat
  | .lit (.string bytes) => bytes.length + 1
  | .lit _ => 1
  | .nil => 1
  | .ptr d => uptoBulk d + 1
  | .slice elems spare => uptoBulkAll elems + uptoBulkAll spare + 1
  | .agg parts => uptoBulkAll parts + 1
  | .iface _ d => uptoBulk d + 1
  | .map entries => uptoBulkEntries entries + 1
  | .held _ => 1
def uptoBulkAll {H : Type} : List (DataW H) → Nat
  | [] => 0
  | d :: r => uptoBulk d + uptoBulkAll r
def uptoBulkEntries {H : Type} : List (Lit × DataW H) → Nat
  | [] => 0
  | x :: r => uptoBulkEntry x + uptoBulkEntries r
def uptoBulkEntry {H : Type} : Lit × DataW H → Nat
  | (.string bytes, d) => bytes.length + uptoBulk d + 1
  | (_, d) => uptoBulk d + 1
 end
def uptoSmall : (H : Type) → List (DataW H) → Bool := fun _ ds => decide (uptoBulkAll ds ≤ 1048576)
def OpenSpec.upto (s : _root_.Go.ChangeSpec) : _root_.Go.OpenSpec := { _root_.Go.OpenSpec.ofChange s with cond := some uptoSmall }

/-- 'strongtxlaw12.ReadsetFollows', WHERE WHAT IT READS IS OF BULK AT MOST 1048576: true; the input reads as it did. -/
def readsetFollowsUptoRow : OpenClaim := { program := "ytcohfgenpbhfeaa", sum := "45693a37a6001784e30e57b7f16f68b8dbe9f6791ac93cada9b48e8c9201920f", func := "strongtx/strongtxlaw12.ReadsetFollows", spec := "readsetFollows", apart := false, narrowed := true }
def ReadsetFollowsUptoSaid : Prop := readsetFollowsUptoRow.holds Try.pinned (OpenSpec.upto readsetFollowsSpec)

/-- 'strongtxlaw12.ReadsetOnce', WHERE WHAT IT READS IS OF BULK AT MOST 1048576: true; the input reads as it did. -/
def readsetOnceUptoRow : OpenClaim := { program := "ytcohfgenpbhfeaa", sum := "45693a37a6001784e30e57b7f16f68b8dbe9f6791ac93cada9b48e8c9201920f", func := "strongtx/strongtxlaw12.ReadsetOnce", spec := "readsetOnce", apart := false, narrowed := true }
def ReadsetOnceUptoSaid : Prop := readsetOnceUptoRow.holds Try.pinned (OpenSpec.upto readsetOnceSpec)

/-- 'strongtxlaw12.ReadsetClears', WHERE WHAT IT READS IS OF BULK AT MOST 1048576: true; the input reads as it did. -/
def readsetClearsUptoRow : OpenClaim := { program := "ytcohfgenpbhfeaa", sum := "45693a37a6001784e30e57b7f16f68b8dbe9f6791ac93cada9b48e8c9201920f", func := "strongtx/strongtxlaw12.ReadsetClears", spec := "readsetClears", apart := false, narrowed := true }
def ReadsetClearsUptoSaid : Prop := readsetClearsUptoRow.holds Try.pinned (OpenSpec.upto readsetClearsSpec)

/-- 'strongtxlaw12.ReadsetLimits', WHERE WHAT IT READS IS OF BULK AT MOST 1048576: true; the input reads as it did. -/
def readsetLimitsUptoRow : OpenClaim := { program := "ytcohfgenpbhfeaa", sum := "45693a37a6001784e30e57b7f16f68b8dbe9f6791ac93cada9b48e8c9201920f", func := "strongtx/strongtxlaw12.ReadsetLimits", spec := "readsetLimits", apart := false, narrowed := true }
def ReadsetLimitsUptoSaid : Prop := readsetLimitsUptoRow.holds Try.pinned (OpenSpec.upto readsetLimitsSpec)

end Rows
end Go.Proofs.Ytcohfgenpbhfeaa
