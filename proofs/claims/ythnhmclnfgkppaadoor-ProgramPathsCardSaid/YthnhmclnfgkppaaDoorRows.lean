/-
  NARROWER THAN 'FOR EVERY INPUT', by the rows' own cells (each row's printed sentence says how): ProgramSplits: laid · ProgramPaths: laid · ProgramStraight: laid · LayoutSpoiled: laid.
  DERIVED. THE GIVEN ROWS OF THIS SEAT. 4 by the template 'for every input the law returns true; each argument reads behind the call as it read before'; 0 by the template 'total and deterministic' (their statements: YthnhmclnfgkppaaDoorTotals.lean).
  GIVEN WITH THE SEED: the statements are not yours to turn. If you find one false, say at which input.
  Laid BY PROGRAM, IN A SANDBOX (cutbox-rows.mjs): the forced cells as the released guide's own fill.sh prints them over the translation b6aa02b0b765ad0e… (all of the seat's roots in one cut). By AI agents, Wed Nov 11 2026. No macro, syntax, notation, axiom, sorry.
-/
import Derived.Test.YthnhmclnfgkppaaDoorChecked
import GoSem.Claim
import GoSem.ClaimJoined
import GoSem.ClaimMapViews
import Derived.JoinedTies
import Derived.KernelRfl
namespace Go.Proofs.YthnhmclnfgkppaaDoor
/- THE CELL 'sum', in the pinned program and in every row, IS THE sha256 OF THE DUMP (.gsa) THAT YthnhmclnfgkppaaDoorProg.lean LOADS. Nothing in Lean hashes anything: it is a label: what it is worth is what the hold of that sum in a sandbox is worth. -/
noncomputable def Tryd.pinned : Pinned := { name := "ythnhmclnfgkppaadoor", sum := "b6aa02b0b765ad0e391298c00e960ecd21338447222dab23eaf0bf81819eadb5", checked := Tryd.checked }
namespace Rows
def none {H : Type} : Left H := { results := [], args := [] }

/- WHAT THE LISTED PACKAGE-LEVEL VARIABLES READ AS WHEN THE CALL BEGINS. Each datum BY PROGRAM (the guide's laid-datum.mjs) off the statement by which the dump's own 'gosem.cut.vars' lays the variable. In a bare row this is a premise. The card (YthnhmclnfgkppaaDoorCards.lean) ties it to the program's text. -/
def laid_strongtx_isa_shapes {H : Type} : DataW H := .agg [.agg [.lit (.string [110, 111, 112]), .lit (.string []), .lit (.string []), .lit (.bool false), .lit (.int .i64 0)], .agg [.lit (.string [99, 111, 110, 115, 116]), .lit (.string [97, 110]), .lit (.string []), .lit (.bool true), .lit (.int .i64 0)], .agg [.lit (.string [109, 111, 118, 101]), .lit (.string [97, 98]), .lit (.string [98]), .lit (.bool true), .lit (.int .i64 0)], .agg [.lit (.string []), .lit (.string [97, 98, 99]), .lit (.string [98, 99]), .lit (.bool true), .lit (.int .i64 0)], .agg [.lit (.string [106, 117, 109, 112]), .lit (.string [110]), .lit (.string []), .lit (.bool false), .lit (.int .i64 0)], .agg [.lit (.string [122, 101, 114, 111]), .lit (.string [97, 110]), .lit (.string [97]), .lit (.bool false), .lit (.int .i64 0)], .agg [.lit (.string [110, 111, 110, 122, 101, 114, 111]), .lit (.string [97, 110]), .lit (.string [97]), .lit (.bool false), .lit (.int .i64 0)], .agg [.lit (.string [98, 101, 103, 105, 110]), .lit (.string [110]), .lit (.string []), .lit (.bool false), .lit (.int .i64 2)], .agg [.lit (.string [99, 111, 109, 109, 105, 116]), .lit (.string []), .lit (.string []), .lit (.bool false), .lit (.int .i64 1)], .agg [.lit (.string [97, 98, 111, 114, 116]), .lit (.string []), .lit (.string []), .lit (.bool false), .lit (.int .i64 1)], .agg [.lit (.string [116, 114, 101, 97, 100]), .lit (.string [97, 98, 110]), .lit (.string [98]), .lit (.bool true), .lit (.int .i64 1)], .agg [.lit (.string [116, 119, 114, 105, 116, 101]), .lit (.string [97, 98, 110]), .lit (.string [97, 98]), .lit (.bool false), .lit (.int .i64 1)], .agg [.lit (.string [112, 114, 101, 97, 100]), .lit (.string [97, 98, 110]), .lit (.string [98]), .lit (.bool true), .lit (.int .i64 2)], .agg [.lit (.string [112, 119, 114, 105, 116, 101]), .lit (.string [97, 98, 110]), .lit (.string [97, 98]), .lit (.bool false), .lit (.int .i64 2)], .agg [.lit (.string [97, 108, 108, 111, 99]), .lit (.string [97, 110]), .lit (.string []), .lit (.bool true), .lit (.int .i64 1)], .agg [.lit (.string [102, 114, 101, 101]), .lit (.string [97]), .lit (.string [97]), .lit (.bool false), .lit (.int .i64 1)], .agg [.lit (.string [102, 101, 110, 99, 101]), .lit (.string []), .lit (.string []), .lit (.bool false), .lit (.int .i64 2)], .agg [.lit (.string [111, 117, 116, 99, 111, 109, 101]), .lit (.string [97]), .lit (.string []), .lit (.bool true), .lit (.int .i64 2)]]

/-- 'strongtxlaw06.ProgramSplits': WHATEVER THE INPUT: true; the input reads as it did. -/
def programSplitsSpec : ChangeSpec := { name := "programSplits", fn := fun _ => fun
  | [d] => { results := [.lit (.bool true)], args := [d] }
  | _ => none }
def programSplitsRow : OpenClaim := { program := "ythnhmclnfgkppaadoor", sum := "b6aa02b0b765ad0e391298c00e960ecd21338447222dab23eaf0bf81819eadb5", func := "strongtx/strongtxlaw06.ProgramSplits", spec := "programSplits", unfollowed := true, recurses := true, named := ["strongtx/isa.shapes"], apart := false, laid := [("strongtx/isa.shapes", laid_strongtx_isa_shapes)] }
def ProgramSplitsSaid : Prop := programSplitsRow.holds Tryd.pinned (OpenSpec.ofChange programSplitsSpec)

/-- ITS FALSE NEIGHBOUR: 'it returns false'. Refute it at one input. -/
def programSplitsWrong : ChangeSpec := { name := "programSplits", fn := fun _ => fun
  | [d] => { results := [.lit (.bool false)], args := [d] }
  | _ => none }
def ProgramSplitsWrongFalsely : Prop := programSplitsRow.holds Tryd.pinned (OpenSpec.ofChange programSplitsWrong)

/-- 'strongtxlaw06.ProgramPaths': WHATEVER THE INPUT: true; the input reads as it did. -/
def programPathsSpec : ChangeSpec := { name := "programPaths", fn := fun _ => fun
  | [d1, d2, d3] => { results := [.lit (.bool true)], args := [d1, d2, d3] }
  | _ => none }
def programPathsRow : OpenClaim := { program := "ythnhmclnfgkppaadoor", sum := "b6aa02b0b765ad0e391298c00e960ecd21338447222dab23eaf0bf81819eadb5", func := "strongtx/strongtxlaw06.ProgramPaths", spec := "programPaths", unfollowed := true, recurses := true, named := ["strongtx/isa.shapes"], apart := false, laid := [("strongtx/isa.shapes", laid_strongtx_isa_shapes)] }
def ProgramPathsSaid : Prop := programPathsRow.holds Tryd.pinned (OpenSpec.ofChange programPathsSpec)

/-- ITS FALSE NEIGHBOUR: 'it returns false'. Refute it at one input. -/
def programPathsWrong : ChangeSpec := { name := "programPaths", fn := fun _ => fun
  | [d1, d2, d3] => { results := [.lit (.bool false)], args := [d1, d2, d3] }
  | _ => none }
def ProgramPathsWrongFalsely : Prop := programPathsRow.holds Tryd.pinned (OpenSpec.ofChange programPathsWrong)

/-- 'strongtxlaw06.ProgramStraight': WHATEVER THE INPUT: true; the input reads as it did. -/
def programStraightSpec : ChangeSpec := { name := "programStraight", fn := fun _ => fun
  | [d] => { results := [.lit (.bool true)], args := [d] }
  | _ => none }
def programStraightRow : OpenClaim := { program := "ythnhmclnfgkppaadoor", sum := "b6aa02b0b765ad0e391298c00e960ecd21338447222dab23eaf0bf81819eadb5", func := "strongtx/strongtxlaw06.ProgramStraight", spec := "programStraight", unfollowed := true, recurses := true, named := ["strongtx/isa.shapes"], apart := false, laid := [("strongtx/isa.shapes", laid_strongtx_isa_shapes)] }
def ProgramStraightSaid : Prop := programStraightRow.holds Tryd.pinned (OpenSpec.ofChange programStraightSpec)

/-- ITS FALSE NEIGHBOUR: 'it returns false'. Refute it at one input. -/
def programStraightWrong : ChangeSpec := { name := "programStraight", fn := fun _ => fun
  | [d] => { results := [.lit (.bool false)], args := [d] }
  | _ => none }
def ProgramStraightWrongFalsely : Prop := programStraightRow.holds Tryd.pinned (OpenSpec.ofChange programStraightWrong)

/-- 'strongtxlaw07.LayoutSpoiled': WHATEVER THE INPUT: true; the input reads as it did. -/
def layoutSpoiledSpec : ChangeSpec := { name := "layoutSpoiled", fn := fun _ => fun
  | [d1, d2, d3, d4, d5, d6] => { results := [.lit (.bool true)], args := [d1, d2, d3, d4, d5, d6] }
  | _ => none }
def layoutSpoiledRow : OpenClaim := { program := "ythnhmclnfgkppaadoor", sum := "b6aa02b0b765ad0e391298c00e960ecd21338447222dab23eaf0bf81819eadb5", func := "strongtx/strongtxlaw07.LayoutSpoiled", spec := "layoutSpoiled", unfollowed := true, recurses := true, named := ["strongtx/isa.shapes"], apart := false, laid := [("strongtx/isa.shapes", laid_strongtx_isa_shapes)] }
def LayoutSpoiledSaid : Prop := layoutSpoiledRow.holds Tryd.pinned (OpenSpec.ofChange layoutSpoiledSpec)

/-- ITS FALSE NEIGHBOUR: 'it returns false'. Refute it at one input. -/
def layoutSpoiledWrong : ChangeSpec := { name := "layoutSpoiled", fn := fun _ => fun
  | [d1, d2, d3, d4, d5, d6] => { results := [.lit (.bool false)], args := [d1, d2, d3, d4, d5, d6] }
  | _ => none }
def LayoutSpoiledWrongFalsely : Prop := layoutSpoiledRow.holds Tryd.pinned (OpenSpec.ofChange layoutSpoiledWrong)

/- THE SECOND FORM. 'bulk': how many values and letters a reading holds, each counted each time it is reached (what is shared counts as often as it is met; a slice's spare places count too). A statement '..UptoSaid' is the law's where the arguments, and the package variables that the reading takes, are together of bulk at most 1048576: NARROWER than '..Said'. Prove '..Said' where nothing that the law and all that it calls make is longer than what came in: it says more and counts as full. Else prove '..UptoSaid'. A law counts once. -/
mutual
def uptoBulk {H : Type} : DataW H → Nat
  | .lit (.string bytes) => bytes.length + 1
  | .lit _ => 1
  | .nil => 1
  | .ptr d => uptoBulk d + 1
  | .slice elems spare => uptoBulkAll elems + uptoBulkAll spare + 1
  | .agg parts => uptoBulkAll parts + 1
  | .iface _ d => uptoBulk d + 1
  | .map entries => uptoBulkEntries entries + 1
  | .held _ => 1
def uptoBulkAll {H : Type} : List (DataW H) → Nat
  | [] => 0
  | d :: r => uptoBulk d + uptoBulkAll r
def uptoBulkEntries {H : Type} : List (Lit × DataW H) → Nat
  | [] => 0
  | x :: r => uptoBulkEntry x + uptoBulkEntries r
def uptoBulkEntry {H : Type} : Lit × DataW H → Nat
  | (.string bytes, d) => bytes.length + uptoBulk d + 1
  | (_, d) => uptoBulk d + 1
 end
def uptoSmall : (H : Type) → List (DataW H) → Bool := fun _ ds => decide (uptoBulkAll ds ≤ 1048576)
def OpenSpec.upto (s : _root_.Go.ChangeSpec) : _root_.Go.OpenSpec := { _root_.Go.OpenSpec.ofChange s with cond := some uptoSmall }

/-- 'strongtxlaw06.ProgramSplits', WHERE WHAT IT READS IS OF BULK AT MOST 1048576: true; the input reads as it did. -/
def programSplitsUptoRow : OpenClaim := { program := "ythnhmclnfgkppaadoor", sum := "b6aa02b0b765ad0e391298c00e960ecd21338447222dab23eaf0bf81819eadb5", func := "strongtx/strongtxlaw06.ProgramSplits", spec := "programSplits", unfollowed := true, recurses := true, named := ["strongtx/isa.shapes"], apart := false, laid := [("strongtx/isa.shapes", laid_strongtx_isa_shapes)], narrowed := true }
def ProgramSplitsUptoSaid : Prop := programSplitsUptoRow.holds Tryd.pinned (OpenSpec.upto programSplitsSpec)

/-- 'strongtxlaw06.ProgramPaths', WHERE WHAT IT READS IS OF BULK AT MOST 1048576: true; the input reads as it did. -/
def programPathsUptoRow : OpenClaim := { program := "ythnhmclnfgkppaadoor", sum := "b6aa02b0b765ad0e391298c00e960ecd21338447222dab23eaf0bf81819eadb5", func := "strongtx/strongtxlaw06.ProgramPaths", spec := "programPaths", unfollowed := true, recurses := true, named := ["strongtx/isa.shapes"], apart := false, laid := [("strongtx/isa.shapes", laid_strongtx_isa_shapes)], narrowed := true }
def ProgramPathsUptoSaid : Prop := programPathsUptoRow.holds Tryd.pinned (OpenSpec.upto programPathsSpec)

/-- 'strongtxlaw06.ProgramStraight', WHERE WHAT IT READS IS OF BULK AT MOST 1048576: true; the input reads as it did. -/
def programStraightUptoRow : OpenClaim := { program := "ythnhmclnfgkppaadoor", sum := "b6aa02b0b765ad0e391298c00e960ecd21338447222dab23eaf0bf81819eadb5", func := "strongtx/strongtxlaw06.ProgramStraight", spec := "programStraight", unfollowed := true, recurses := true, named := ["strongtx/isa.shapes"], apart := false, laid := [("strongtx/isa.shapes", laid_strongtx_isa_shapes)], narrowed := true }
def ProgramStraightUptoSaid : Prop := programStraightUptoRow.holds Tryd.pinned (OpenSpec.upto programStraightSpec)

/-- 'strongtxlaw07.LayoutSpoiled', WHERE WHAT IT READS IS OF BULK AT MOST 1048576: true; the input reads as it did. -/
def layoutSpoiledUptoRow : OpenClaim := { program := "ythnhmclnfgkppaadoor", sum := "b6aa02b0b765ad0e391298c00e960ecd21338447222dab23eaf0bf81819eadb5", func := "strongtx/strongtxlaw07.LayoutSpoiled", spec := "layoutSpoiled", unfollowed := true, recurses := true, named := ["strongtx/isa.shapes"], apart := false, laid := [("strongtx/isa.shapes", laid_strongtx_isa_shapes)], narrowed := true }
def LayoutSpoiledUptoSaid : Prop := layoutSpoiledUptoRow.holds Tryd.pinned (OpenSpec.upto layoutSpoiledSpec)

end Rows
end Go.Proofs.YthnhmclnfgkppaaDoor
