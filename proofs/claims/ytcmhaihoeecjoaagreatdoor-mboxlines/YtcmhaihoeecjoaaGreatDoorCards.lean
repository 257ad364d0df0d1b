/-
  DERIVED. GIVEN WITH THE SEED: THE CARDS: each row of YtcmhaihoeecjoaaGreatDoorRows.lean that lists a variable, with what it lists TIED to the program's text (the seventh form; the later family's looks); each row that meets fmt, with fmt's text TOLD by the authors' own Lean function (tested against real Go, not proved from fmt's source: count such statements apart). THE CARD IS WHAT COUNTS. Prove the row's statement (the work); the ties are given (YtcmhaihoeecjoaaGreatDoorTie.lean); close each card by the builder's one call (the guide's Derived/Test/ToyasCard.lean, 'card_holds'). Laid BY PROGRAM, IN A SANDBOX (cutbox-door.mjs). By AI agents, Wed Nov 11 2026. No macro, syntax, notation, axiom, sorry.
-/
import Derived.Test.YtcmhaihoeecjoaaGreatDoorRows
import GoSem.ClaimSeven
namespace Go.Proofs.YtcmhaihoeecjoaaGreatDoor
namespace Rows

/-- THE TIED CARD OF 'postbaglaw07.MboxEntries'. -/
def mboxEntriesCard : Claim7 := { stood := { row := mboxEntriesRow, standIns := [], harness := (true, "a278aed91b13de33d415d8838a9f24a8743c620f93748c59aafadaa245fa3d0e"), looks := true }, kinds := [], alts := [], laidByText := true, laidKinds := [.data, .data, .data, .data, .sentinel, .sentinel, .sentinel, .sentinel, .sentinel, .sentinel, .sentinel, .sentinel, .sentinel, .sentinel, .sentinel, .sentinel, .sentinel, .pinned], laidTests := true, laidLooks := .later }
def MboxEntriesCardSaid : Prop := Claim7.holds Tryz.pinned (.plain (OpenSpec.ofChange mboxEntriesSpec)) mboxEntriesCard

/-- THE TIED CARD OF 'postbaglaw07.MboxScans'. -/
def mboxScansCard : Claim7 := { stood := { row := mboxScansRow, standIns := [], harness := (true, "a278aed91b13de33d415d8838a9f24a8743c620f93748c59aafadaa245fa3d0e"), looks := true }, kinds := [], alts := [], laidByText := true, laidKinds := [.data, .data, .data, .data, .sentinel, .sentinel, .sentinel, .sentinel, .sentinel, .sentinel, .sentinel, .sentinel, .sentinel, .sentinel, .sentinel, .sentinel, .sentinel, .pinned], laidTests := true, laidLooks := .later }
def MboxScansCardSaid : Prop := Claim7.holds Tryz.pinned (.plain (OpenSpec.ofChange mboxScansSpec)) mboxScansCard

/-- THE TIED CARD OF 'postbaglaw07.MboxLines'. -/
def mboxLinesCard : Claim7 := { stood := { row := mboxLinesRow, standIns := [], harness := (true, "a278aed91b13de33d415d8838a9f24a8743c620f93748c59aafadaa245fa3d0e"), looks := true }, kinds := [], alts := [], laidByText := true, laidKinds := [.data, .data, .data, .data, .sentinel, .sentinel, .sentinel, .sentinel, .sentinel, .sentinel, .sentinel, .sentinel, .sentinel, .sentinel, .sentinel, .sentinel, .sentinel, .pinned], laidTests := true, laidLooks := .later }
def MboxLinesCardSaid : Prop := Claim7.holds Tryz.pinned (.plain (OpenSpec.ofChange mboxLinesSpec)) mboxLinesCard

/-- THE SECOND FORM's CARD OF 'postbaglaw07.MboxEntries'. -/
def mboxEntriesUptoCard : Claim7 := { stood := { row := mboxEntriesUptoRow, standIns := [], harness := (true, "a278aed91b13de33d415d8838a9f24a8743c620f93748c59aafadaa245fa3d0e"), looks := true }, kinds := [], alts := [], laidByText := true, laidKinds := [.data, .data, .data, .data, .sentinel, .sentinel, .sentinel, .sentinel, .sentinel, .sentinel, .sentinel, .sentinel, .sentinel, .sentinel, .sentinel, .sentinel, .sentinel, .pinned], laidTests := true, laidLooks := .later }
def MboxEntriesUptoCardSaid : Prop := Claim7.holds Tryz.pinned (.plain (OpenSpec.upto mboxEntriesSpec)) mboxEntriesUptoCard

/-- THE SECOND FORM's CARD OF 'postbaglaw07.MboxScans'. -/
def mboxScansUptoCard : Claim7 := { stood := { row := mboxScansUptoRow, standIns := [], harness := (true, "a278aed91b13de33d415d8838a9f24a8743c620f93748c59aafadaa245fa3d0e"), looks := true }, kinds := [], alts := [], laidByText := true, laidKinds := [.data, .data, .data, .data, .sentinel, .sentinel, .sentinel, .sentinel, .sentinel, .sentinel, .sentinel, .sentinel, .sentinel, .sentinel, .sentinel, .sentinel, .sentinel, .pinned], laidTests := true, laidLooks := .later }
def MboxScansUptoCardSaid : Prop := Claim7.holds Tryz.pinned (.plain (OpenSpec.upto mboxScansSpec)) mboxScansUptoCard

/-- THE SECOND FORM's CARD OF 'postbaglaw07.MboxLines'. -/
def mboxLinesUptoCard : Claim7 := { stood := { row := mboxLinesUptoRow, standIns := [], harness := (true, "a278aed91b13de33d415d8838a9f24a8743c620f93748c59aafadaa245fa3d0e"), looks := true }, kinds := [], alts := [], laidByText := true, laidKinds := [.data, .data, .data, .data, .sentinel, .sentinel, .sentinel, .sentinel, .sentinel, .sentinel, .sentinel, .sentinel, .sentinel, .sentinel, .sentinel, .sentinel, .sentinel, .pinned], laidTests := true, laidLooks := .later }
def MboxLinesUptoCardSaid : Prop := Claim7.holds Tryz.pinned (.plain (OpenSpec.upto mboxLinesSpec)) mboxLinesUptoCard
end Rows
end Go.Proofs.YtcmhaihoeecjoaaGreatDoor
