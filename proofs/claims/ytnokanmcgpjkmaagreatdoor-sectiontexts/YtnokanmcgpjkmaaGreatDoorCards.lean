/-
  DERIVED. GIVEN WITH THE SEED: THE CARDS: each row of YtnokanmcgpjkmaaGreatDoorRows.lean that lists a variable, with what it lists TIED to the program's text (the seventh form; the later family's looks); each row that meets fmt, with fmt's text TOLD by the authors' own Lean function (tested against real Go, not proved from fmt's source: count such statements apart). THE CARD IS WHAT COUNTS. Prove the row's statement (the work); the ties are given (YtnokanmcgpjkmaaGreatDoorTie.lean); close each card by the builder's one call (the guide's Derived/Test/ToyasCard.lean, 'card_holds'). Laid BY PROGRAM, IN A SANDBOX (cutbox-door.mjs). By AI agents, Wed Nov 11 2026. No macro, syntax, notation, axiom, sorry.
-/
import Derived.Test.YtnokanmcgpjkmaaGreatDoorRows
import GoSem.ClaimSeven
namespace Go.Proofs.YtnokanmcgpjkmaaGreatDoor
namespace Rows

/-- THE TIED CARD OF 'postbaglaw12.SectionParses'. -/
def sectionParsesCard : Claim7 := { stood := { row := sectionParsesRow, standIns := [], harness := (true, "bcdd9370b795992e10e42cca6558cd9baa132a258c1b6e4f50c398c79af2fd69"), looks := true }, kinds := [], alts := [], laidByText := true, laidKinds := [.data, .data, .data, .data, .sentinel, .sentinel, .sentinel, .sentinel, .sentinel, .sentinel, .sentinel, .sentinel, .sentinel, .sentinel, .sentinel, .sentinel, .sentinel, .sentinel, .sentinel, .pinned], laidTests := true, laidLooks := .later }
def SectionParsesCardSaid : Prop := Claim7.holds Tryz.pinned (.plain (OpenSpec.ofChange sectionParsesSpec)) sectionParsesCard

/-- THE TIED CARD OF 'postbaglaw12.SectionTexts'. -/
def sectionTextsCard : Claim7 := { stood := { row := sectionTextsRow, standIns := [], harness := (true, "bcdd9370b795992e10e42cca6558cd9baa132a258c1b6e4f50c398c79af2fd69"), looks := true }, kinds := [], alts := [], laidByText := true, laidKinds := [.data, .data, .data, .data, .sentinel, .sentinel, .sentinel, .sentinel, .sentinel, .sentinel, .sentinel, .sentinel, .sentinel, .sentinel, .sentinel, .sentinel, .sentinel, .sentinel, .sentinel, .pinned], laidTests := true, laidLooks := .later }
def SectionTextsCardSaid : Prop := Claim7.holds Tryz.pinned (.plain (OpenSpec.ofChange sectionTextsSpec)) sectionTextsCard

/-- THE TIED CARD OF 'postbaglaw12.SectionHalves'. -/
def sectionHalvesCard : Claim7 := { stood := { row := sectionHalvesRow, standIns := [], harness := (true, "bcdd9370b795992e10e42cca6558cd9baa132a258c1b6e4f50c398c79af2fd69"), looks := true }, kinds := [], alts := [], laidByText := true, laidKinds := [.data, .data, .data, .data, .sentinel, .sentinel, .sentinel, .sentinel, .pinned], laidTests := true, laidLooks := .later }
def SectionHalvesCardSaid : Prop := Claim7.holds Tryz.pinned (.plain (OpenSpec.ofChange sectionHalvesSpec)) sectionHalvesCard

/-- THE TIED CARD OF 'postbaglaw10.MimeTexts'. -/
def mimeTextsCard : Claim7 := { stood := { row := mimeTextsRow, standIns := [], harness := (true, "bcdd9370b795992e10e42cca6558cd9baa132a258c1b6e4f50c398c79af2fd69"), looks := true }, kinds := [], alts := [], laidByText := true, laidKinds := [.data, .data, .data, .data, .sentinel, .sentinel, .pinned], laidTests := true, laidLooks := .later }
def MimeTextsCardSaid : Prop := Claim7.holds Tryz.pinned (.plain (OpenSpec.ofChange mimeTextsSpec)) mimeTextsCard

/-- THE SECOND FORM's CARD OF 'postbaglaw12.SectionParses'. -/
def sectionParsesUptoCard : Claim7 := { stood := { row := sectionParsesUptoRow, standIns := [], harness := (true, "bcdd9370b795992e10e42cca6558cd9baa132a258c1b6e4f50c398c79af2fd69"), looks := true }, kinds := [], alts := [], laidByText := true, laidKinds := [.data, .data, .data, .data, .sentinel, .sentinel, .sentinel, .sentinel, .sentinel, .sentinel, .sentinel, .sentinel, .sentinel, .sentinel, .sentinel, .sentinel, .sentinel, .sentinel, .sentinel, .pinned], laidTests := true, laidLooks := .later }
def SectionParsesUptoCardSaid : Prop := Claim7.holds Tryz.pinned (.plain (OpenSpec.upto sectionParsesSpec)) sectionParsesUptoCard

/-- THE SECOND FORM's CARD OF 'postbaglaw12.SectionTexts'. -/
def sectionTextsUptoCard : Claim7 := { stood := { row := sectionTextsUptoRow, standIns := [], harness := (true, "bcdd9370b795992e10e42cca6558cd9baa132a258c1b6e4f50c398c79af2fd69"), looks := true }, kinds := [], alts := [], laidByText := true, laidKinds := [.data, .data, .data, .data, .sentinel, .sentinel, .sentinel, .sentinel, .sentinel, .sentinel, .sentinel, .sentinel, .sentinel, .sentinel, .sentinel, .sentinel, .sentinel, .sentinel, .sentinel, .pinned], laidTests := true, laidLooks := .later }
def SectionTextsUptoCardSaid : Prop := Claim7.holds Tryz.pinned (.plain (OpenSpec.upto sectionTextsSpec)) sectionTextsUptoCard

/-- THE SECOND FORM's CARD OF 'postbaglaw12.SectionHalves'. -/
def sectionHalvesUptoCard : Claim7 := { stood := { row := sectionHalvesUptoRow, standIns := [], harness := (true, "bcdd9370b795992e10e42cca6558cd9baa132a258c1b6e4f50c398c79af2fd69"), looks := true }, kinds := [], alts := [], laidByText := true, laidKinds := [.data, .data, .data, .data, .sentinel, .sentinel, .sentinel, .sentinel, .pinned], laidTests := true, laidLooks := .later }
def SectionHalvesUptoCardSaid : Prop := Claim7.holds Tryz.pinned (.plain (OpenSpec.upto sectionHalvesSpec)) sectionHalvesUptoCard

/-- THE SECOND FORM's CARD OF 'postbaglaw10.MimeTexts'. -/
def mimeTextsUptoCard : Claim7 := { stood := { row := mimeTextsUptoRow, standIns := [], harness := (true, "bcdd9370b795992e10e42cca6558cd9baa132a258c1b6e4f50c398c79af2fd69"), looks := true }, kinds := [], alts := [], laidByText := true, laidKinds := [.data, .data, .data, .data, .sentinel, .sentinel, .pinned], laidTests := true, laidLooks := .later }
def MimeTextsUptoCardSaid : Prop := Claim7.holds Tryz.pinned (.plain (OpenSpec.upto mimeTextsSpec)) mimeTextsUptoCard
end Rows
end Go.Proofs.YtnokanmcgpjkmaaGreatDoor
