/-
  DERIVED. GIVEN WITH THE SEED: THE CARDS: each row of YtfebohfmpikoeaaGreatDoorRows.lean that lists a variable, with what it lists TIED to the program's text (the seventh form; the later family's looks); each row that meets fmt, with fmt's text TOLD by the authors' own Lean function (tested against real Go, not proved from fmt's source: count such statements apart). THE CARD IS WHAT COUNTS. Prove the row's statement (the work); the ties are given (YtfebohfmpikoeaaGreatDoorTie.lean); close each card by the builder's one call (the guide's Derived/Test/ToyasCard.lean, 'card_holds'). Laid BY PROGRAM, IN A SANDBOX (cutbox-door.mjs). By AI agents, Wed Nov 11 2026. No macro, syntax, notation, axiom, sorry.
-/
import Derived.Test.YtfebohfmpikoeaaGreatDoorRows
import GoSem.ClaimSeven
namespace Go.Proofs.YtfebohfmpikoeaaGreatDoor
namespace Rows

/-- THE TIED CARD OF 'postbaglaw10.MimeTypes'. -/
def mimeTypesCard : Claim7 := { stood := { row := mimeTypesRow, standIns := [], harness := (true, "6918dba0e182cff8744dd856bb0e15e94a0e1e3d8275c3a2110e1503b1a87c6e"), looks := true }, kinds := [], alts := [], laidByText := true, laidKinds := [.data, .data, .data, .data, .sentinel, .sentinel, .sentinel, .sentinel, .sentinel, .sentinel, .sentinel, .sentinel, .sentinel, .sentinel, .sentinel, .sentinel, .sentinel, .pinned], laidTests := true, laidLooks := .later }
def MimeTypesCardSaid : Prop := Claim7.holds Tryz.pinned (.plain (OpenSpec.ofChange mimeTypesSpec)) mimeTypesCard

/-- THE TIED CARD OF 'postbaglaw10.MimeParts'. -/
def mimePartsCard : Claim7 := { stood := { row := mimePartsRow, standIns := [], harness := (true, "6918dba0e182cff8744dd856bb0e15e94a0e1e3d8275c3a2110e1503b1a87c6e"), looks := true }, kinds := [], alts := [], laidByText := true, laidKinds := [.data, .data, .data, .data, .sentinel, .sentinel, .pinned], laidTests := true, laidLooks := .later }
def MimePartsCardSaid : Prop := Claim7.holds Tryz.pinned (.plain (OpenSpec.ofChange mimePartsSpec)) mimePartsCard

/-- THE TIED CARD OF 'postbaglaw10.MimeTexts'. -/
def mimeTextsCard : Claim7 := { stood := { row := mimeTextsRow, standIns := [], harness := (true, "6918dba0e182cff8744dd856bb0e15e94a0e1e3d8275c3a2110e1503b1a87c6e"), looks := true }, kinds := [], alts := [], laidByText := true, laidKinds := [.data, .data, .data, .data, .sentinel, .sentinel, .pinned], laidTests := true, laidLooks := .later }
def MimeTextsCardSaid : Prop := Claim7.holds Tryz.pinned (.plain (OpenSpec.ofChange mimeTextsSpec)) mimeTextsCard

/-- THE TIED CARD OF 'postbaglaw10.MimeQuotes'. -/
def mimeQuotesCard : Claim7 := { stood := { row := mimeQuotesRow, standIns := [], harness := (true, "6918dba0e182cff8744dd856bb0e15e94a0e1e3d8275c3a2110e1503b1a87c6e"), looks := true }, kinds := [], alts := [], laidByText := true, laidKinds := [.data, .data, .data, .data, .sentinel, .sentinel, .pinned], laidTests := true, laidLooks := .later }
def MimeQuotesCardSaid : Prop := Claim7.holds Tryz.pinned (.plain (OpenSpec.ofChange mimeQuotesSpec)) mimeQuotesCard

/-- THE TIED CARD OF 'postbaglaw10.MimeFinds'. -/
def mimeFindsCard : Claim7 := { stood := { row := mimeFindsRow, standIns := [], harness := (true, "6918dba0e182cff8744dd856bb0e15e94a0e1e3d8275c3a2110e1503b1a87c6e"), looks := true }, kinds := [], alts := [], laidByText := true, laidKinds := [.data, .data, .data, .data, .sentinel, .sentinel, .pinned], laidTests := true, laidLooks := .later }
def MimeFindsCardSaid : Prop := Claim7.holds Tryz.pinned (.plain (OpenSpec.ofChange mimeFindsSpec)) mimeFindsCard

/-- THE TIED CARD OF 'postbaglaw10.MimeWithin'. -/
def mimeWithinCard : Claim7 := { stood := { row := mimeWithinRow, standIns := [], harness := (true, "6918dba0e182cff8744dd856bb0e15e94a0e1e3d8275c3a2110e1503b1a87c6e"), looks := true }, kinds := [], alts := [], laidByText := true, laidKinds := [.data, .data, .data, .data, .sentinel, .sentinel, .pinned], laidTests := true, laidLooks := .later }
def MimeWithinCardSaid : Prop := Claim7.holds Tryz.pinned (.plain (OpenSpec.ofChange mimeWithinSpec)) mimeWithinCard

/-- THE SECOND FORM's CARD OF 'postbaglaw10.MimeTypes'. -/
def mimeTypesUptoCard : Claim7 := { stood := { row := mimeTypesUptoRow, standIns := [], harness := (true, "6918dba0e182cff8744dd856bb0e15e94a0e1e3d8275c3a2110e1503b1a87c6e"), looks := true }, kinds := [], alts := [], laidByText := true, laidKinds := [.data, .data, .data, .data, .sentinel, .sentinel, .sentinel, .sentinel, .sentinel, .sentinel, .sentinel, .sentinel, .sentinel, .sentinel, .sentinel, .sentinel, .sentinel, .pinned], laidTests := true, laidLooks := .later }
def MimeTypesUptoCardSaid : Prop := Claim7.holds Tryz.pinned (.plain (OpenSpec.upto mimeTypesSpec)) mimeTypesUptoCard

/-- THE SECOND FORM's CARD OF 'postbaglaw10.MimeParts'. -/
def mimePartsUptoCard : Claim7 := { stood := { row := mimePartsUptoRow, standIns := [], harness := (true, "6918dba0e182cff8744dd856bb0e15e94a0e1e3d8275c3a2110e1503b1a87c6e"), looks := true }, kinds := [], alts := [], laidByText := true, laidKinds := [.data, .data, .data, .data, .sentinel, .sentinel, .pinned], laidTests := true, laidLooks := .later }
def MimePartsUptoCardSaid : Prop := Claim7.holds Tryz.pinned (.plain (OpenSpec.upto mimePartsSpec)) mimePartsUptoCard

/-- THE SECOND FORM's CARD OF 'postbaglaw10.MimeTexts'. -/
def mimeTextsUptoCard : Claim7 := { stood := { row := mimeTextsUptoRow, standIns := [], harness := (true, "6918dba0e182cff8744dd856bb0e15e94a0e1e3d8275c3a2110e1503b1a87c6e"), looks := true }, kinds := [], alts := [], laidByText := true, laidKinds := [.data, .data, .data, .data, .sentinel, .sentinel, .pinned], laidTests := true, laidLooks := .later }
def MimeTextsUptoCardSaid : Prop := Claim7.holds Tryz.pinned (.plain (OpenSpec.upto mimeTextsSpec)) mimeTextsUptoCard

/-- THE SECOND FORM's CARD OF 'postbaglaw10.MimeQuotes'. -/
def mimeQuotesUptoCard : Claim7 := { stood := { row := mimeQuotesUptoRow, standIns := [], harness := (true, "6918dba0e182cff8744dd856bb0e15e94a0e1e3d8275c3a2110e1503b1a87c6e"), looks := true }, kinds := [], alts := [], laidByText := true, laidKinds := [.data, .data, .data, .data, .sentinel, .sentinel, .pinned], laidTests := true, laidLooks := .later }
def MimeQuotesUptoCardSaid : Prop := Claim7.holds Tryz.pinned (.plain (OpenSpec.upto mimeQuotesSpec)) mimeQuotesUptoCard

/-- THE SECOND FORM's CARD OF 'postbaglaw10.MimeFinds'. -/
def mimeFindsUptoCard : Claim7 := { stood := { row := mimeFindsUptoRow, standIns := [], harness := (true, "6918dba0e182cff8744dd856bb0e15e94a0e1e3d8275c3a2110e1503b1a87c6e"), looks := true }, kinds := [], alts := [], laidByText := true, laidKinds := [.data, .data, .data, .data, .sentinel, .sentinel, .pinned], laidTests := true, laidLooks := .later }
def MimeFindsUptoCardSaid : Prop := Claim7.holds Tryz.pinned (.plain (OpenSpec.upto mimeFindsSpec)) mimeFindsUptoCard

/-- THE SECOND FORM's CARD OF 'postbaglaw10.MimeWithin'. -/
def mimeWithinUptoCard : Claim7 := { stood := { row := mimeWithinUptoRow, standIns := [], harness := (true, "6918dba0e182cff8744dd856bb0e15e94a0e1e3d8275c3a2110e1503b1a87c6e"), looks := true }, kinds := [], alts := [], laidByText := true, laidKinds := [.data, .data, .data, .data, .sentinel, .sentinel, .pinned], laidTests := true, laidLooks := .later }
def MimeWithinUptoCardSaid : Prop := Claim7.holds Tryz.pinned (.plain (OpenSpec.upto mimeWithinSpec)) mimeWithinUptoCard
end Rows
end Go.Proofs.YtfebohfmpikoeaaGreatDoor
