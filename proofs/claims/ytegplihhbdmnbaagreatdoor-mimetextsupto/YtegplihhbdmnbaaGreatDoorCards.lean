/-
  DERIVED. GIVEN WITH THE SEED: THE CARDS: each row of YtegplihhbdmnbaaGreatDoorRows.lean that lists a variable, with what it lists TIED to the program's text (the seventh form; the later family's looks); each row that meets fmt, with fmt's text TOLD by the authors' own Lean function (tested against real Go, not proved from fmt's source: count such statements apart). THE CARD IS WHAT COUNTS. Prove the row's statement (the work); the ties are given (YtegplihhbdmnbaaGreatDoorTie.lean); close each card by the builder's one call (the guide's Derived/Test/ToyasCard.lean, 'card_holds'). Laid BY PROGRAM, IN A SANDBOX (cutbox-door.mjs). By AI agents, Wed Nov 11 2026. No macro, syntax, notation, axiom, sorry.
-/
import Derived.Test.YtegplihhbdmnbaaGreatDoorRows
import GoSem.ClaimSeven
namespace Go.Proofs.YtegplihhbdmnbaaGreatDoor
namespace Rows

/-- THE TIED CARD OF 'postbaglaw12.SectionParses'. -/
def sectionParsesCard : Claim7 := { stood := { row := sectionParsesRow, standIns := [], harness := (true, "129a2e581113d200f5aa59d9a450f121fb7c31862b8c3d727800aa9cbd76b1a3"), looks := true }, kinds := [], alts := [], laidByText := true, laidKinds := [.data, .data, .data, .data, .sentinel, .sentinel, .sentinel, .sentinel, .sentinel, .sentinel, .sentinel, .sentinel, .sentinel, .sentinel, .sentinel, .sentinel, .sentinel, .sentinel, .sentinel, .pinned], laidTests := true, laidLooks := .later }
def SectionParsesCardSaid : Prop := Claim7.holds Tryz.pinned (.plain (OpenSpec.ofChange sectionParsesSpec)) sectionParsesCard

/-- THE TIED CARD OF 'postbaglaw10.MimeTexts'. -/
def mimeTextsCard : Claim7 := { stood := { row := mimeTextsRow, standIns := [], harness := (true, "129a2e581113d200f5aa59d9a450f121fb7c31862b8c3d727800aa9cbd76b1a3"), looks := true }, kinds := [], alts := [], laidByText := true, laidKinds := [.data, .data, .data, .data, .sentinel, .sentinel, .pinned], laidTests := true, laidLooks := .later }
def MimeTextsCardSaid : Prop := Claim7.holds Tryz.pinned (.plain (OpenSpec.ofChange mimeTextsSpec)) mimeTextsCard

/-- THE SECOND FORM's CARD OF 'postbaglaw12.SectionParses'. -/
def sectionParsesUptoCard : Claim7 := { stood := { row := sectionParsesUptoRow, standIns := [], harness := (true, "129a2e581113d200f5aa59d9a450f121fb7c31862b8c3d727800aa9cbd76b1a3"), looks := true }, kinds := [], alts := [], laidByText := true, laidKinds := [.data, .data, .data, .data, .sentinel, .sentinel, .sentinel, .sentinel, .sentinel, .sentinel, .sentinel, .sentinel, .sentinel, .sentinel, .sentinel, .sentinel, .sentinel, .sentinel, .sentinel, .pinned], laidTests := true, laidLooks := .later }
def SectionParsesUptoCardSaid : Prop := Claim7.holds Tryz.pinned (.plain (OpenSpec.upto sectionParsesSpec)) sectionParsesUptoCard

/-- THE SECOND FORM's CARD OF 'postbaglaw10.MimeTexts'. -/
def mimeTextsUptoCard : Claim7 := { stood := { row := mimeTextsUptoRow, standIns := [], harness := (true, "129a2e581113d200f5aa59d9a450f121fb7c31862b8c3d727800aa9cbd76b1a3"), looks := true }, kinds := [], alts := [], laidByText := true, laidKinds := [.data, .data, .data, .data, .sentinel, .sentinel, .pinned], laidTests := true, laidLooks := .later }
def MimeTextsUptoCardSaid : Prop := Claim7.holds Tryz.pinned (.plain (OpenSpec.upto mimeTextsSpec)) mimeTextsUptoCard
end Rows
end Go.Proofs.YtegplihhbdmnbaaGreatDoor
