/-
  DERIVED. GIVEN WITH THE SEED: THE CARDS: each row of YtcplhochgngedaaGreatDoorRows.lean that lists a variable, with what it lists TIED to the program's text (the seventh form; the later family's looks); each row that meets fmt, with fmt's text TOLD by the authors' own Lean function (tested against real Go, not proved from fmt's source: count such statements apart). THE CARD IS WHAT COUNTS. Prove the row's statement (the work); the ties are given (YtcplhochgngedaaGreatDoorTie.lean); close each card by the builder's one call (the guide's Derived/Test/ToyasCard.lean, 'card_holds'). Laid BY PROGRAM, IN A SANDBOX (cutbox-door.mjs). By AI agents, Wed Nov 11 2026. No macro, syntax, notation, axiom, sorry.
-/
import Derived.Test.YtcplhochgngedaaGreatDoorRows
import GoSem.ClaimSeven
namespace Go.Proofs.YtcplhochgngedaaGreatDoor
namespace Rows

/-- THE TIED CARD OF 'strongtxlaw04.AsmAny'. -/
def asmAnyCard : Claim7 := { stood := { row := asmAnyRow, standIns := [], harness := (true, "1ef751ac43e9856c99f1e939776a48ec7e3069089b5d180d8b7c2a31704f499a"), looks := true }, kinds := [], alts := [], laidByText := true, laidKinds := [.data, .data, .data, .data, .sentinel, .sentinel, .data, .data, .pinned], laidTests := true, laidLooks := .later }
def AsmAnyCardSaid : Prop := Claim7.holds Tryz.pinned (.plain (OpenSpec.ofChange asmAnySpec)) asmAnyCard

/-- THE TIED CARD OF 'strongtxlaw04.AsmTexts'. -/
def asmTextsCard : Claim7 := { stood := { row := asmTextsRow, standIns := [], harness := (true, "1ef751ac43e9856c99f1e939776a48ec7e3069089b5d180d8b7c2a31704f499a"), looks := true }, kinds := [], alts := [], laidByText := true, laidKinds := [.data, .data, .data, .data, .sentinel, .sentinel, .data, .data, .pinned], laidTests := true, laidLooks := .later }
def AsmTextsCardSaid : Prop := Claim7.holds Tryz.pinned (.plain (OpenSpec.ofChange asmTextsSpec)) asmTextsCard

/-- THE TIED CARD OF 'strongtxlaw04.AsmDisassembles'. -/
def asmDisassemblesCard : Claim7 := { stood := { row := asmDisassemblesRow, standIns := [], harness := (true, "1ef751ac43e9856c99f1e939776a48ec7e3069089b5d180d8b7c2a31704f499a"), looks := true }, kinds := [], alts := [], laidByText := true, laidKinds := [.data, .data, .data, .data, .sentinel, .sentinel, .data, .data, .pinned], laidTests := true, laidLooks := .later }
def AsmDisassemblesCardSaid : Prop := Claim7.holds Tryz.pinned (.plain (OpenSpec.ofChange asmDisassemblesSpec)) asmDisassemblesCard

/-- THE TIED CARD OF 'strongtxlaw04.AsmRound'. -/
def asmRoundCard : Claim7 := { stood := { row := asmRoundRow, standIns := [], harness := (true, "1ef751ac43e9856c99f1e939776a48ec7e3069089b5d180d8b7c2a31704f499a"), looks := true }, kinds := [], alts := [], laidByText := true, laidKinds := [.data, .data, .data, .data, .sentinel, .sentinel, .data, .data, .pinned], laidTests := true, laidLooks := .later }
def AsmRoundCardSaid : Prop := Claim7.holds Tryz.pinned (.plain (OpenSpec.ofChange asmRoundSpec)) asmRoundCard

/-- THE TIED CARD OF 'strongtxlaw04.AsmComments'. -/
def asmCommentsCard : Claim7 := { stood := { row := asmCommentsRow, standIns := [], harness := (true, "1ef751ac43e9856c99f1e939776a48ec7e3069089b5d180d8b7c2a31704f499a"), looks := true }, kinds := [], alts := [], laidByText := true, laidKinds := [.data, .data, .data, .data, .sentinel, .sentinel, .data, .data, .pinned], laidTests := true, laidLooks := .later }
def AsmCommentsCardSaid : Prop := Claim7.holds Tryz.pinned (.plain (OpenSpec.ofChange asmCommentsSpec)) asmCommentsCard

/-- THE SECOND FORM's CARD OF 'strongtxlaw04.AsmAny'. -/
def asmAnyUptoCard : Claim7 := { stood := { row := asmAnyUptoRow, standIns := [], harness := (true, "1ef751ac43e9856c99f1e939776a48ec7e3069089b5d180d8b7c2a31704f499a"), looks := true }, kinds := [], alts := [], laidByText := true, laidKinds := [.data, .data, .data, .data, .sentinel, .sentinel, .data, .data, .pinned], laidTests := true, laidLooks := .later }
def AsmAnyUptoCardSaid : Prop := Claim7.holds Tryz.pinned (.plain (OpenSpec.upto asmAnySpec)) asmAnyUptoCard

/-- THE SECOND FORM's CARD OF 'strongtxlaw04.AsmTexts'. -/
def asmTextsUptoCard : Claim7 := { stood := { row := asmTextsUptoRow, standIns := [], harness := (true, "1ef751ac43e9856c99f1e939776a48ec7e3069089b5d180d8b7c2a31704f499a"), looks := true }, kinds := [], alts := [], laidByText := true, laidKinds := [.data, .data, .data, .data, .sentinel, .sentinel, .data, .data, .pinned], laidTests := true, laidLooks := .later }
def AsmTextsUptoCardSaid : Prop := Claim7.holds Tryz.pinned (.plain (OpenSpec.upto asmTextsSpec)) asmTextsUptoCard

/-- THE SECOND FORM's CARD OF 'strongtxlaw04.AsmDisassembles'. -/
def asmDisassemblesUptoCard : Claim7 := { stood := { row := asmDisassemblesUptoRow, standIns := [], harness := (true, "1ef751ac43e9856c99f1e939776a48ec7e3069089b5d180d8b7c2a31704f499a"), looks := true }, kinds := [], alts := [], laidByText := true, laidKinds := [.data, .data, .data, .data, .sentinel, .sentinel, .data, .data, .pinned], laidTests := true, laidLooks := .later }
def AsmDisassemblesUptoCardSaid : Prop := Claim7.holds Tryz.pinned (.plain (OpenSpec.upto asmDisassemblesSpec)) asmDisassemblesUptoCard

/-- THE SECOND FORM's CARD OF 'strongtxlaw04.AsmRound'. -/
def asmRoundUptoCard : Claim7 := { stood := { row := asmRoundUptoRow, standIns := [], harness := (true, "1ef751ac43e9856c99f1e939776a48ec7e3069089b5d180d8b7c2a31704f499a"), looks := true }, kinds := [], alts := [], laidByText := true, laidKinds := [.data, .data, .data, .data, .sentinel, .sentinel, .data, .data, .pinned], laidTests := true, laidLooks := .later }
def AsmRoundUptoCardSaid : Prop := Claim7.holds Tryz.pinned (.plain (OpenSpec.upto asmRoundSpec)) asmRoundUptoCard

/-- THE SECOND FORM's CARD OF 'strongtxlaw04.AsmComments'. -/
def asmCommentsUptoCard : Claim7 := { stood := { row := asmCommentsUptoRow, standIns := [], harness := (true, "1ef751ac43e9856c99f1e939776a48ec7e3069089b5d180d8b7c2a31704f499a"), looks := true }, kinds := [], alts := [], laidByText := true, laidKinds := [.data, .data, .data, .data, .sentinel, .sentinel, .data, .data, .pinned], laidTests := true, laidLooks := .later }
def AsmCommentsUptoCardSaid : Prop := Claim7.holds Tryz.pinned (.plain (OpenSpec.upto asmCommentsSpec)) asmCommentsUptoCard
end Rows
end Go.Proofs.YtcplhochgngedaaGreatDoor
