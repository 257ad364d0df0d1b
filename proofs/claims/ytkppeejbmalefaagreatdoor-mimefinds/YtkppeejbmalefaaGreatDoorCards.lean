/-
  DERIVED. GIVEN WITH THE SEED: THE CARDS: each row of YtkppeejbmalefaaGreatDoorRows.lean that lists a variable, with what it lists TIED to the program's text (the seventh form; the later family's looks); each row that meets fmt, with fmt's text TOLD by the authors' own Lean function (tested against real Go, not proved from fmt's source: count such statements apart). THE CARD IS WHAT COUNTS. Prove the row's statement (the work); the ties are given (YtkppeejbmalefaaGreatDoorTie.lean); close each card by the builder's one call (the guide's Derived/Test/ToyasCard.lean, 'card_holds'). Laid BY PROGRAM, IN A SANDBOX (cutbox-door.mjs). By AI agents, Wed Nov 11 2026. No macro, syntax, notation, axiom, sorry.
-/
import Derived.Test.YtkppeejbmalefaaGreatDoorRows
import GoSem.ClaimSeven
namespace Go.Proofs.YtkppeejbmalefaaGreatDoor
namespace Rows

/-- THE TIED CARD OF 'postbaglaw11.EnvelopeTexts'. -/
def envelopeTextsCard : Claim7 := { stood := { row := envelopeTextsRow, standIns := [], harness := (true, "37cbd1305dfffc307580db659af14fd25a006ca1f362042d615c9a0e421f9abe"), looks := false }, kinds := [], alts := [], laidByText := true, laidKinds := [.data, .data, .data, .data, .sentinel, .pinned], laidTests := true, laidLooks := .later }
def EnvelopeTextsCardSaid : Prop := Claim7.holds Tryz.pinned (.plain (OpenSpec.ofChange envelopeTextsSpec)) envelopeTextsCard

/-- THE TIED CARD OF 'postbaglaw10.MimeFinds'. -/
def mimeFindsCard : Claim7 := { stood := { row := mimeFindsRow, standIns := [], harness := (true, "37cbd1305dfffc307580db659af14fd25a006ca1f362042d615c9a0e421f9abe"), looks := false }, kinds := [], alts := [], laidByText := true, laidKinds := [.data, .data, .data, .data, .sentinel, .sentinel, .pinned], laidTests := true, laidLooks := .later }
def MimeFindsCardSaid : Prop := Claim7.holds Tryz.pinned (.plain (OpenSpec.ofChange mimeFindsSpec)) mimeFindsCard

/-- THE SECOND FORM's CARD OF 'postbaglaw11.EnvelopeTexts'. -/
def envelopeTextsUptoCard : Claim7 := { stood := { row := envelopeTextsUptoRow, standIns := [], harness := (true, "37cbd1305dfffc307580db659af14fd25a006ca1f362042d615c9a0e421f9abe"), looks := false }, kinds := [], alts := [], laidByText := true, laidKinds := [.data, .data, .data, .data, .sentinel, .pinned], laidTests := true, laidLooks := .later }
def EnvelopeTextsUptoCardSaid : Prop := Claim7.holds Tryz.pinned (.plain (OpenSpec.upto envelopeTextsSpec)) envelopeTextsUptoCard

/-- THE SECOND FORM's CARD OF 'postbaglaw10.MimeFinds'. -/
def mimeFindsUptoCard : Claim7 := { stood := { row := mimeFindsUptoRow, standIns := [], harness := (true, "37cbd1305dfffc307580db659af14fd25a006ca1f362042d615c9a0e421f9abe"), looks := false }, kinds := [], alts := [], laidByText := true, laidKinds := [.data, .data, .data, .data, .sentinel, .sentinel, .pinned], laidTests := true, laidLooks := .later }
def MimeFindsUptoCardSaid : Prop := Claim7.holds Tryz.pinned (.plain (OpenSpec.upto mimeFindsSpec)) mimeFindsUptoCard
end Rows
end Go.Proofs.YtkppeejbmalefaaGreatDoor
