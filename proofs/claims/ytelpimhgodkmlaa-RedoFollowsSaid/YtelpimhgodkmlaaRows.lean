/-
  No cell of these rows narrows 'for every input' (looked for: loops, veiled, ifaces, maps, wideKeys, modest, calm, conditions, laid).
  DERIVED. THE GIVEN ROWS OF THIS SEAT. 5 by the template 'for every input the law returns true; each argument reads behind the call as it read before'; 0 by the template 'total and deterministic' (their statements: YtelpimhgodkmlaaTotals.lean).
  GIVEN WITH THE SEED: the statements are not yours to turn. If you find one false, say at which input.
  Laid BY PROGRAM, IN A SANDBOX (cutbox-rows.mjs): the forced cells as the released guide's own fill.sh prints them over the translation 0b656a721147c783… (all of the seat's roots in one cut). By AI agents, Wed Nov 11 2026. No macro, syntax, notation, axiom, sorry.
-/
import Derived.Test.YtelpimhgodkmlaaChecked
import GoSem.Claim
import GoSem.ClaimJoined
import GoSem.ClaimMapViews
import Derived.JoinedTies
import Derived.KernelRfl
namespace Go.Proofs.Ytelpimhgodkmlaa
/- THE CELL 'sum', in the pinned program and in every row, IS THE sha256 OF THE DUMP (.gsa) THAT YtelpimhgodkmlaaProg.lean LOADS. Nothing in Lean hashes anything: it is a label: what it is worth is what the hold of that sum in a sandbox is worth. -/
noncomputable def Try.pinned : Pinned := { name := "ytelpimhgodkmlaa", sum := "0b656a721147c783749991b9c431dadea3964b47cc4bbbd2d8103a0fbc6e0caf", checked := Try.checked }
namespace Rows
def none {H : Type} : Left H := { results := [], args := [] }

/-- 'strongtxlaw13.RedoFollows': WHATEVER THE INPUT: true; the input reads as it did. -/
def redoFollowsSpec : ChangeSpec := { name := "redoFollows", fn := fun _ => fun
  | [d1, d2, d3] => { results := [.lit (.bool true)], args := [d1, d2, d3] }
  | _ => none }
def redoFollowsRow : OpenClaim := { program := "ytelpimhgodkmlaa", sum := "0b656a721147c783749991b9c431dadea3964b47cc4bbbd2d8103a0fbc6e0caf", func := "strongtx/strongtxlaw13.RedoFollows", spec := "redoFollows", apart := false }
def RedoFollowsSaid : Prop := redoFollowsRow.holds Try.pinned (OpenSpec.ofChange redoFollowsSpec)

/-- ITS FALSE NEIGHBOUR: 'it returns false'. Refute it at one input. -/
def redoFollowsWrong : ChangeSpec := { name := "redoFollows", fn := fun _ => fun
  | [d1, d2, d3] => { results := [.lit (.bool false)], args := [d1, d2, d3] }
  | _ => none }
def RedoFollowsWrongFalsely : Prop := redoFollowsRow.holds Try.pinned (OpenSpec.ofChange redoFollowsWrong)

/-- 'strongtxlaw13.RedoLast': WHATEVER THE INPUT: true; the input reads as it did. -/
def redoLastSpec : ChangeSpec := { name := "redoLast", fn := fun _ => fun
  | [d] => { results := [.lit (.bool true)], args := [d] }
  | _ => none }
def redoLastRow : OpenClaim := { program := "ytelpimhgodkmlaa", sum := "0b656a721147c783749991b9c431dadea3964b47cc4bbbd2d8103a0fbc6e0caf", func := "strongtx/strongtxlaw13.RedoLast", spec := "redoLast", apart := false }
def RedoLastSaid : Prop := redoLastRow.holds Try.pinned (OpenSpec.ofChange redoLastSpec)

/-- ITS FALSE NEIGHBOUR: 'it returns false'. Refute it at one input. -/
def redoLastWrong : ChangeSpec := { name := "redoLast", fn := fun _ => fun
  | [d] => { results := [.lit (.bool false)], args := [d] }
  | _ => none }
def RedoLastWrongFalsely : Prop := redoLastRow.holds Try.pinned (OpenSpec.ofChange redoLastWrong)

/-- 'strongtxlaw13.RedoProbes': WHATEVER THE INPUT: true; the input reads as it did. -/
def redoProbesSpec : ChangeSpec := { name := "redoProbes", fn := fun _ => fun
  | [d1, d2] => { results := [.lit (.bool true)], args := [d1, d2] }
  | _ => none }
def redoProbesRow : OpenClaim := { program := "ytelpimhgodkmlaa", sum := "0b656a721147c783749991b9c431dadea3964b47cc4bbbd2d8103a0fbc6e0caf", func := "strongtx/strongtxlaw13.RedoProbes", spec := "redoProbes", apart := false }
def RedoProbesSaid : Prop := redoProbesRow.holds Try.pinned (OpenSpec.ofChange redoProbesSpec)

/-- ITS FALSE NEIGHBOUR: 'it returns false'. Refute it at one input. -/
def redoProbesWrong : ChangeSpec := { name := "redoProbes", fn := fun _ => fun
  | [d1, d2] => { results := [.lit (.bool false)], args := [d1, d2] }
  | _ => none }
def RedoProbesWrongFalsely : Prop := redoProbesRow.holds Try.pinned (OpenSpec.ofChange redoProbesWrong)

/-- 'strongtxlaw13.RedoFull': WHATEVER THE INPUT: true; the input reads as it did. -/
def redoFullSpec : ChangeSpec := { name := "redoFull", fn := fun _ => fun
  | [d1, d2, d3] => { results := [.lit (.bool true)], args := [d1, d2, d3] }
  | _ => none }
def redoFullRow : OpenClaim := { program := "ytelpimhgodkmlaa", sum := "0b656a721147c783749991b9c431dadea3964b47cc4bbbd2d8103a0fbc6e0caf", func := "strongtx/strongtxlaw13.RedoFull", spec := "redoFull", apart := false }
def RedoFullSaid : Prop := redoFullRow.holds Try.pinned (OpenSpec.ofChange redoFullSpec)

/-- ITS FALSE NEIGHBOUR: 'it returns false'. Refute it at one input. -/
def redoFullWrong : ChangeSpec := { name := "redoFull", fn := fun _ => fun
  | [d1, d2, d3] => { results := [.lit (.bool false)], args := [d1, d2, d3] }
  | _ => none }
def RedoFullWrongFalsely : Prop := redoFullRow.holds Try.pinned (OpenSpec.ofChange redoFullWrong)

/-- 'strongtxlaw13.RedoClears': WHATEVER THE INPUT: true; the input reads as it did. -/
def redoClearsSpec : ChangeSpec := { name := "redoClears", fn := fun _ => fun
  | [d] => { results := [.lit (.bool true)], args := [d] }
  | _ => none }
def redoClearsRow : OpenClaim := { program := "ytelpimhgodkmlaa", sum := "0b656a721147c783749991b9c431dadea3964b47cc4bbbd2d8103a0fbc6e0caf", func := "strongtx/strongtxlaw13.RedoClears", spec := "redoClears", apart := false }
def RedoClearsSaid : Prop := redoClearsRow.holds Try.pinned (OpenSpec.ofChange redoClearsSpec)

/-- ITS FALSE NEIGHBOUR: 'it returns false'. Refute it at one input. -/
def redoClearsWrong : ChangeSpec := { name := "redoClears", fn := fun _ => fun
  | [d] => { results := [.lit (.bool false)], args := [d] }
  | _ => none }
def RedoClearsWrongFalsely : Prop := redoClearsRow.holds Try.pinned (OpenSpec.ofChange redoClearsWrong)

/- THE SECOND FORM. 'bulk': how many values and letters a reading holds, each counted each time it is reached (what is shared counts as often as it is met; a slice's spare places count too). A statement '..UptoSaid' is the law's where the arguments, and the package variables that the reading takes, are together of bulk at most 1048576: NARROWER than '..Said'. Prove '..Said' where nothing that the law and all that it calls make is longer than what came in: it says more and counts as full. Else prove '..UptoSaid'. A law counts once. -/
mutual
def uptoBulk {H : Type} : DataW H → Nat
  | .lit (.string bytes) => bytes.length + 1
  | .lit _ => 1
  | .nil => 1
  | .ptr d => uptoBulk d + 1
  | .slice elems spare => uptoBulkAll elems + uptoBulkAll spare + 1
  | .agg parts => uptoBulkAll parts + 1
  | .iface _ d => uptoBulk d + 1
  | .map entries => uptoBulkEntries entries + 1
  | .held _ => 1
def uptoBulkAll {H : Type} : List (DataW H) → Nat
  | [] => 0
  | d :: r => uptoBulk d + uptoBulkAll r
def uptoBulkEntries {H : Type} : List (Lit × DataW H) → Nat
  | [] => 0
  | x :: r => uptoBulkEntry x + uptoBulkEntries r
def uptoBulkEntry {H : Type} : Lit × DataW H → Nat
  | (.string bytes, d) => bytes.length + uptoBulk d + 1
  | (_, d) => uptoBulk d + 1
 end
def uptoSmall : (H : Type) → List (DataW H) → Bool := fun _ ds => decide (uptoBulkAll ds ≤ 1048576)
def OpenSpec.upto (s : _root_.Go.ChangeSpec) : _root_.Go.OpenSpec := { _root_.Go.OpenSpec.ofChange s with cond := some uptoSmall }

/-- 'strongtxlaw13.RedoFollows', WHERE WHAT IT READS IS OF BULK AT MOST 1048576: true; the input reads as it did. -/
def redoFollowsUptoRow : OpenClaim := { program := "ytelpimhgodkmlaa", sum := "0b656a721147c783749991b9c431dadea3964b47cc4bbbd2d8103a0fbc6e0caf", func := "strongtx/strongtxlaw13.RedoFollows", spec := "redoFollows", apart := false, narrowed := true }
def RedoFollowsUptoSaid : Prop := redoFollowsUptoRow.holds Try.pinned (OpenSpec.upto redoFollowsSpec)

/-- 'strongtxlaw13.RedoLast', WHERE WHAT IT READS IS OF BULK AT MOST 1048576: true; the input reads as it did. -/
def redoLastUptoRow : OpenClaim := { program := "ytelpimhgodkmlaa", sum := "0b656a721147c783749991b9c431dadea3964b47cc4bbbd2d8103a0fbc6e0caf", func := "strongtx/strongtxlaw13.RedoLast", spec := "redoLast", apart := false, narrowed := true }
def RedoLastUptoSaid : Prop := redoLastUptoRow.holds Try.pinned (OpenSpec.upto redoLastSpec)

/-- 'strongtxlaw13.RedoProbes', WHERE WHAT IT READS IS OF BULK AT MOST 1048576: true; the input reads as it did. -/
def redoProbesUptoRow : OpenClaim := { program := "ytelpimhgodkmlaa", sum := "0b656a721147c783749991b9c431dadea3964b47cc4bbbd2d8103a0fbc6e0caf", func := "strongtx/strongtxlaw13.RedoProbes", spec := "redoProbes", apart := false, narrowed := true }
def RedoProbesUptoSaid : Prop := redoProbesUptoRow.holds Try.pinned (OpenSpec.upto redoProbesSpec)

/-- 'strongtxlaw13.RedoFull', WHERE WHAT IT READS IS OF BULK AT MOST 1048576: true; the input reads as it did. -/
def redoFullUptoRow : OpenClaim := { program := "ytelpimhgodkmlaa", sum := "0b656a721147c783749991b9c431dadea3964b47cc4bbbd2d8103a0fbc6e0caf", func := "strongtx/strongtxlaw13.RedoFull", spec := "redoFull", apart := false, narrowed := true }
def RedoFullUptoSaid : Prop := redoFullUptoRow.holds Try.pinned (OpenSpec.upto redoFullSpec)

/-- 'strongtxlaw13.RedoClears', WHERE WHAT IT READS IS OF BULK AT MOST 1048576: true; the input reads as it did. -/
def redoClearsUptoRow : OpenClaim := { program := "ytelpimhgodkmlaa", sum := "0b656a721147c783749991b9c431dadea3964b47cc4bbbd2d8103a0fbc6e0caf", func := "strongtx/strongtxlaw13.RedoClears", spec := "redoClears", apart := false, narrowed := true }
def RedoClearsUptoSaid : Prop := redoClearsUptoRow.holds Try.pinned (OpenSpec.upto redoClearsSpec)

end Rows
end Go.Proofs.Ytelpimhgodkmlaa
