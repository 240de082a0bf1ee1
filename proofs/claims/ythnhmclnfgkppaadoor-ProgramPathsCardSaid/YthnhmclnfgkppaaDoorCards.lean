/-
  DERIVED. GIVEN WITH THE SEED: THE CARDS: each row of YthnhmclnfgkppaaDoorRows.lean that lists a variable, with what it lists TIED to the program's text (the seventh form; the later family's looks); each row that meets fmt, with fmt's text TOLD by the authors' own Lean function (tested against real Go, not proved from fmt's source: count such statements apart). THE CARD IS WHAT COUNTS. Prove the row's statement (the work); the ties are given (YthnhmclnfgkppaaDoorTie.lean); close each card by the builder's one call (the guide's Derived/Test/ToyasCard.lean, 'card_holds'). Laid BY PROGRAM, IN A SANDBOX (cutbox-door.mjs). By AI agents, Wed Nov 11 2026. No macro, syntax, notation, axiom, sorry.
-/
import Derived.Test.YthnhmclnfgkppaaDoorRows
import GoSem.ClaimSeven
namespace Go.Proofs.YthnhmclnfgkppaaDoor
namespace Rows

/-- THE TIED CARD OF 'strongtxlaw06.ProgramSplits'. -/
def programSplitsCard : Claim7 := { stood := { row := programSplitsRow, standIns := [], harness := (true, "38f59f8f3060a691bd598a7acc0f19158161a3a80ad834a34fe1782d22c2d8e1"), looks := false }, kinds := [], alts := [], laidByText := true, laidKinds := [.data], laidTests := true, laidLooks := .later }
def ProgramSplitsCardSaid : Prop := Claim7.holds Tryd.pinned (.plain (OpenSpec.ofChange programSplitsSpec)) programSplitsCard

/-- THE TIED CARD OF 'strongtxlaw06.ProgramPaths'. -/
def programPathsCard : Claim7 := { stood := { row := programPathsRow, standIns := [], harness := (true, "38f59f8f3060a691bd598a7acc0f19158161a3a80ad834a34fe1782d22c2d8e1"), looks := false }, kinds := [], alts := [], laidByText := true, laidKinds := [.data], laidTests := true, laidLooks := .later }
def ProgramPathsCardSaid : Prop := Claim7.holds Tryd.pinned (.plain (OpenSpec.ofChange programPathsSpec)) programPathsCard

/-- THE TIED CARD OF 'strongtxlaw06.ProgramStraight'. -/
def programStraightCard : Claim7 := { stood := { row := programStraightRow, standIns := [], harness := (true, "38f59f8f3060a691bd598a7acc0f19158161a3a80ad834a34fe1782d22c2d8e1"), looks := false }, kinds := [], alts := [], laidByText := true, laidKinds := [.data], laidTests := true, laidLooks := .later }
def ProgramStraightCardSaid : Prop := Claim7.holds Tryd.pinned (.plain (OpenSpec.ofChange programStraightSpec)) programStraightCard

/-- THE TIED CARD OF 'strongtxlaw07.LayoutSpoiled'. -/
def layoutSpoiledCard : Claim7 := { stood := { row := layoutSpoiledRow, standIns := [], harness := (true, "38f59f8f3060a691bd598a7acc0f19158161a3a80ad834a34fe1782d22c2d8e1"), looks := false }, kinds := [], alts := [], laidByText := true, laidKinds := [.data], laidTests := true, laidLooks := .later }
def LayoutSpoiledCardSaid : Prop := Claim7.holds Tryd.pinned (.plain (OpenSpec.ofChange layoutSpoiledSpec)) layoutSpoiledCard

/-- THE SECOND FORM's CARD OF 'strongtxlaw06.ProgramSplits'. -/
def programSplitsUptoCard : Claim7 := { stood := { row := programSplitsUptoRow, standIns := [], harness := (true, "38f59f8f3060a691bd598a7acc0f19158161a3a80ad834a34fe1782d22c2d8e1"), looks := false }, kinds := [], alts := [], laidByText := true, laidKinds := [.data], laidTests := true, laidLooks := .later }
def ProgramSplitsUptoCardSaid : Prop := Claim7.holds Tryd.pinned (.plain (OpenSpec.upto programSplitsSpec)) programSplitsUptoCard

/-- THE SECOND FORM's CARD OF 'strongtxlaw06.ProgramPaths'. -/
def programPathsUptoCard : Claim7 := { stood := { row := programPathsUptoRow, standIns := [], harness := (true, "38f59f8f3060a691bd598a7acc0f19158161a3a80ad834a34fe1782d22c2d8e1"), looks := false }, kinds := [], alts := [], laidByText := true, laidKinds := [.data], laidTests := true, laidLooks := .later }
def ProgramPathsUptoCardSaid : Prop := Claim7.holds Tryd.pinned (.plain (OpenSpec.upto programPathsSpec)) programPathsUptoCard

/-- THE SECOND FORM's CARD OF 'strongtxlaw06.ProgramStraight'. -/
def programStraightUptoCard : Claim7 := { stood := { row := programStraightUptoRow, standIns := [], harness := (true, "38f59f8f3060a691bd598a7acc0f19158161a3a80ad834a34fe1782d22c2d8e1"), looks := false }, kinds := [], alts := [], laidByText := true, laidKinds := [.data], laidTests := true, laidLooks := .later }
def ProgramStraightUptoCardSaid : Prop := Claim7.holds Tryd.pinned (.plain (OpenSpec.upto programStraightSpec)) programStraightUptoCard

/-- THE SECOND FORM's CARD OF 'strongtxlaw07.LayoutSpoiled'. -/
def layoutSpoiledUptoCard : Claim7 := { stood := { row := layoutSpoiledUptoRow, standIns := [], harness := (true, "38f59f8f3060a691bd598a7acc0f19158161a3a80ad834a34fe1782d22c2d8e1"), looks := false }, kinds := [], alts := [], laidByText := true, laidKinds := [.data], laidTests := true, laidLooks := .later }
def LayoutSpoiledUptoCardSaid : Prop := Claim7.holds Tryd.pinned (.plain (OpenSpec.upto layoutSpoiledSpec)) layoutSpoiledUptoCard
end Rows
end Go.Proofs.YthnhmclnfgkppaaDoor
