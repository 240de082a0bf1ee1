/-
  No cell of these rows narrows 'for every input' (looked for: loops, veiled, ifaces, maps, wideKeys, modest, calm, conditions, laid).
  DERIVED. THE GIVEN ROWS OF THIS SEAT. 4 by the template 'for every input the law returns true; each argument reads behind the call as it read before'; 0 by the template 'total and deterministic' (their statements: YtaljpggppocnjaaTotals.lean).
  GIVEN WITH THE SEED: the statements are not yours to turn. If you find one false, say at which input.
  Laid BY PROGRAM, IN A SANDBOX (cutbox-rows.mjs): the forced cells as the released guide's own fill.sh prints them over the translation bae8eaf27c649eb1… (all of the seat's roots in one cut). By AI agents, Wed Nov 11 2026. No macro, syntax, notation, axiom, sorry.
-/
import Derived.Test.YtaljpggppocnjaaChecked
import GoSem.Claim
import GoSem.ClaimJoined
import GoSem.ClaimMapViews
import Derived.JoinedTies
import Derived.KernelRfl
namespace Go.Proofs.Ytaljpggppocnjaa
/- THE CELL 'sum', in the pinned program and in every row, IS THE sha256 OF THE DUMP (.gsa) THAT YtaljpggppocnjaaProg.lean LOADS. Nothing in Lean hashes anything: it is a label: what it is worth is what the hold of that sum in a sandbox is worth. -/
noncomputable def Try.pinned : Pinned := { name := "ytaljpggppocnjaa", sum := "bae8eaf27c649eb13168311ff1d9e71797547c98b8a4a1926d03cb8d092c8bf4", checked := Try.checked }
namespace Rows
def none {H : Type} : Left H := { results := [], args := [] }

/-- 'strongtxlaw07.LayoutAny': WHATEVER THE INPUT: true; the input reads as it did. -/
def layoutAnySpec : ChangeSpec := { name := "layoutAny", fn := fun _ => fun
  | [d1, d2, d3] => { results := [.lit (.bool true)], args := [d1, d2, d3] }
  | _ => none }
def layoutAnyRow : OpenClaim := { program := "ytaljpggppocnjaa", sum := "bae8eaf27c649eb13168311ff1d9e71797547c98b8a4a1926d03cb8d092c8bf4", func := "strongtx/strongtxlaw07.LayoutAny", spec := "layoutAny", apart := false }
def LayoutAnySaid : Prop := layoutAnyRow.holds Try.pinned (OpenSpec.ofChange layoutAnySpec)

/-- ITS FALSE NEIGHBOUR: 'it returns false'. Refute it at one input. -/
def layoutAnyWrong : ChangeSpec := { name := "layoutAny", fn := fun _ => fun
  | [d1, d2, d3] => { results := [.lit (.bool false)], args := [d1, d2, d3] }
  | _ => none }
def LayoutAnyWrongFalsely : Prop := layoutAnyRow.holds Try.pinned (OpenSpec.ofChange layoutAnyWrong)

/-- 'strongtxlaw07.LayoutNear': WHATEVER THE INPUT: true; the input reads as it did. -/
def layoutNearSpec : ChangeSpec := { name := "layoutNear", fn := fun _ => fun
  | [d1, d2, d3, d4, d5] => { results := [.lit (.bool true)], args := [d1, d2, d3, d4, d5] }
  | _ => none }
def layoutNearRow : OpenClaim := { program := "ytaljpggppocnjaa", sum := "bae8eaf27c649eb13168311ff1d9e71797547c98b8a4a1926d03cb8d092c8bf4", func := "strongtx/strongtxlaw07.LayoutNear", spec := "layoutNear", apart := false }
def LayoutNearSaid : Prop := layoutNearRow.holds Try.pinned (OpenSpec.ofChange layoutNearSpec)

/-- ITS FALSE NEIGHBOUR: 'it returns false'. Refute it at one input. -/
def layoutNearWrong : ChangeSpec := { name := "layoutNear", fn := fun _ => fun
  | [d1, d2, d3, d4, d5] => { results := [.lit (.bool false)], args := [d1, d2, d3, d4, d5] }
  | _ => none }
def LayoutNearWrongFalsely : Prop := layoutNearRow.holds Try.pinned (OpenSpec.ofChange layoutNearWrong)

/-- 'strongtxlaw07.LayoutPacks': WHATEVER THE INPUT: true; the input reads as it did. -/
def layoutPacksSpec : ChangeSpec := { name := "layoutPacks", fn := fun _ => fun
  | [d1, d2, d3] => { results := [.lit (.bool true)], args := [d1, d2, d3] }
  | _ => none }
def layoutPacksRow : OpenClaim := { program := "ytaljpggppocnjaa", sum := "bae8eaf27c649eb13168311ff1d9e71797547c98b8a4a1926d03cb8d092c8bf4", func := "strongtx/strongtxlaw07.LayoutPacks", spec := "layoutPacks", apart := false }
def LayoutPacksSaid : Prop := layoutPacksRow.holds Try.pinned (OpenSpec.ofChange layoutPacksSpec)

/-- ITS FALSE NEIGHBOUR: 'it returns false'. Refute it at one input. -/
def layoutPacksWrong : ChangeSpec := { name := "layoutPacks", fn := fun _ => fun
  | [d1, d2, d3] => { results := [.lit (.bool false)], args := [d1, d2, d3] }
  | _ => none }
def LayoutPacksWrongFalsely : Prop := layoutPacksRow.holds Try.pinned (OpenSpec.ofChange layoutPacksWrong)

/-- 'strongtxlaw07.LayoutOrecs': WHATEVER THE INPUT: true; the input reads as it did. -/
def layoutOrecsSpec : ChangeSpec := { name := "layoutOrecs", fn := fun _ => fun
  | [d] => { results := [.lit (.bool true)], args := [d] }
  | _ => none }
def layoutOrecsRow : OpenClaim := { program := "ytaljpggppocnjaa", sum := "bae8eaf27c649eb13168311ff1d9e71797547c98b8a4a1926d03cb8d092c8bf4", func := "strongtx/strongtxlaw07.LayoutOrecs", spec := "layoutOrecs", apart := false }
def LayoutOrecsSaid : Prop := layoutOrecsRow.holds Try.pinned (OpenSpec.ofChange layoutOrecsSpec)

/-- ITS FALSE NEIGHBOUR: 'it returns false'. Refute it at one input. -/
def layoutOrecsWrong : ChangeSpec := { name := "layoutOrecs", fn := fun _ => fun
  | [d] => { results := [.lit (.bool false)], args := [d] }
  | _ => none }
def LayoutOrecsWrongFalsely : Prop := layoutOrecsRow.holds Try.pinned (OpenSpec.ofChange layoutOrecsWrong)

/- THE SECOND FORM. 'bulk': how many values and letters a reading holds, each counted each time it is reached (what is shared counts as often as it is met; a slice's spare places count too). A statement '..UptoSaid' is the law's where the arguments, and the package variables that the reading takes, are together of bulk at most 1048576: NARROWER than '..Said'. Prove '..Said' where nothing that the law and all that it calls make is longer than what came in: it says more and counts as full. Else prove '..UptoSaid'. A law counts once. -/
mutual
def uptoBulk {H : Type} : DataW H → Nat
  | .lit (.string bytes) => bytes.length + 1
  | .lit _ => 1
  | .nil => 1
  | .ptr d => uptoBulk d + 1
  | .slice elems spare => uptoBulkAll elems + uptoBulkAll spare + 1
  | .agg parts => uptoBulkAll parts + 1
  | .iface _ d => uptoBulk d + 1
  | .map entries => uptoBulkEntries entries + 1
  | .held _ => 1
def uptoBulkAll {H : Type} : List (DataW H) → Nat
  | [] => 0
  | d :: r => uptoBulk d + uptoBulkAll r
def uptoBulkEntries {H : Type} : List (Lit × DataW H) → Nat
  | [] => 0
  | x :: r => uptoBulkEntry x + uptoBulkEntries r
def uptoBulkEntry {H : Type} : Lit × DataW H → Nat
  | (.string bytes, d) => bytes.length + uptoBulk d + 1
  | (_, d) => uptoBulk d + 1
 end
def uptoSmall : (H : Type) → List (DataW H) → Bool := fun _ ds => decide (uptoBulkAll ds ≤ 1048576)
def OpenSpec.upto (s : _root_.Go.ChangeSpec) : _root_.Go.OpenSpec := { _root_.Go.OpenSpec.ofChange s with cond := some uptoSmall }

/-- 'strongtxlaw07.LayoutAny', WHERE WHAT IT READS IS OF BULK AT MOST 1048576: true; the input reads as it did. -/
def layoutAnyUptoRow : OpenClaim := { program := "ytaljpggppocnjaa", sum := "bae8eaf27c649eb13168311ff1d9e71797547c98b8a4a1926d03cb8d092c8bf4", func := "strongtx/strongtxlaw07.LayoutAny", spec := "layoutAny", apart := false, narrowed := true }
def LayoutAnyUptoSaid : Prop := layoutAnyUptoRow.holds Try.pinned (OpenSpec.upto layoutAnySpec)

/-- 'strongtxlaw07.LayoutNear', WHERE WHAT IT READS IS OF BULK AT MOST 1048576: true; the input reads as it did. -/
def layoutNearUptoRow : OpenClaim := { program := "ytaljpggppocnjaa", sum := "bae8eaf27c649eb13168311ff1d9e71797547c98b8a4a1926d03cb8d092c8bf4", func := "strongtx/strongtxlaw07.LayoutNear", spec := "layoutNear", apart := false, narrowed := true }
def LayoutNearUptoSaid : Prop := layoutNearUptoRow.holds Try.pinned (OpenSpec.upto layoutNearSpec)

/-- 'strongtxlaw07.LayoutPacks', WHERE WHAT IT READS IS OF BULK AT MOST 1048576: true; the input reads as it did. -/
def layoutPacksUptoRow : OpenClaim := { program := "ytaljpggppocnjaa", sum := "bae8eaf27c649eb13168311ff1d9e71797547c98b8a4a1926d03cb8d092c8bf4", func := "strongtx/strongtxlaw07.LayoutPacks", spec := "layoutPacks", apart := false, narrowed := true }
def LayoutPacksUptoSaid : Prop := layoutPacksUptoRow.holds Try.pinned (OpenSpec.upto layoutPacksSpec)

/-- 'strongtxlaw07.LayoutOrecs', WHERE WHAT IT READS IS OF BULK AT MOST 1048576: true; the input reads as it did. -/
def layoutOrecsUptoRow : OpenClaim := { program := "ytaljpggppocnjaa", sum := "bae8eaf27c649eb13168311ff1d9e71797547c98b8a4a1926d03cb8d092c8bf4", func := "strongtx/strongtxlaw07.LayoutOrecs", spec := "layoutOrecs", apart := false, narrowed := true }
def LayoutOrecsUptoSaid : Prop := layoutOrecsUptoRow.holds Try.pinned (OpenSpec.upto layoutOrecsSpec)

end Rows
end Go.Proofs.Ytaljpggppocnjaa
