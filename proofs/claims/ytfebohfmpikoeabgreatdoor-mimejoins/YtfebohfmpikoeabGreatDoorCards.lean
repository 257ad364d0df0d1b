/-
  DERIVED. GIVEN WITH THE SEED: THE CARDS: each row of YtfebohfmpikoeabGreatDoorRows.lean that lists a variable, with what it lists TIED to the program's text (the seventh form; the later family's looks); each row that meets fmt, with fmt's text TOLD by the authors' own Lean function (tested against real Go, not proved from fmt's source: count such statements apart). THE CARD IS WHAT COUNTS. Prove the row's statement (the work); the ties are given (YtfebohfmpikoeabGreatDoorTie.lean); close each card by the builder's one call (the guide's Derived/Test/ToyasCard.lean, 'card_holds'). Laid BY PROGRAM, IN A SANDBOX (cutbox-door.mjs). By AI agents, Wed Nov 11 2026. No macro, syntax, notation, axiom, sorry.
-/
import Derived.Test.YtfebohfmpikoeabGreatDoorRows
import GoSem.ClaimSeven
namespace Go.Proofs.YtfebohfmpikoeabGreatDoor
namespace Rows

/-- THE TIED CARD OF 'postbaglaw10.MimeJoins'. -/
def mimeJoinsCard : Claim7 := { stood := { row := mimeJoinsRow, standIns := [], harness := (true, "fbfe696ea1c01a709c1e3006cc87641ead4cc862dd676c54db1a3c9fbaee4072"), looks := false }, kinds := [], alts := [], laidByText := true, laidKinds := [.data, .data, .data, .data, .sentinel, .sentinel, .pinned], laidTests := true, laidLooks := .later }
def MimeJoinsCardSaid : Prop := Claim7.holds Tryz.pinned (.plain (OpenSpec.ofChange mimeJoinsSpec)) mimeJoinsCard

/-- THE SECOND FORM's CARD OF 'postbaglaw10.MimeJoins'. -/
def mimeJoinsUptoCard : Claim7 := { stood := { row := mimeJoinsUptoRow, standIns := [], harness := (true, "fbfe696ea1c01a709c1e3006cc87641ead4cc862dd676c54db1a3c9fbaee4072"), looks := false }, kinds := [], alts := [], laidByText := true, laidKinds := [.data, .data, .data, .data, .sentinel, .sentinel, .pinned], laidTests := true, laidLooks := .later }
def MimeJoinsUptoCardSaid : Prop := Claim7.holds Tryz.pinned (.plain (OpenSpec.upto mimeJoinsSpec)) mimeJoinsUptoCard
end Rows
end Go.Proofs.YtfebohfmpikoeabGreatDoor
