/-
  DERIVED. GIVEN WITH THE SEED: THE CARDS: each row of YtbjencibkkhbhabGreatDoorRows.lean that lists a variable, with what it lists TIED to the program's text (the seventh form; the later family's looks); each row that meets fmt, with fmt's text TOLD by the authors' own Lean function (tested against real Go, not proved from fmt's source: count such statements apart). THE CARD IS WHAT COUNTS. Prove the row's statement (the work); the ties are given (YtbjencibkkhbhabGreatDoorTie.lean); close each card by the builder's one call (the guide's Derived/Test/ToyasCard.lean, 'card_holds'). Laid BY PROGRAM, IN A SANDBOX (cutbox-door.mjs). By AI agents, Wed Nov 11 2026. No macro, syntax, notation, axiom, sorry.
-/
import Derived.Test.YtbjencibkkhbhabGreatDoorRows
import GoSem.ClaimSeven
namespace Go.Proofs.YtbjencibkkhbhabGreatDoor
namespace Rows

/-- THE TIED CARD OF 'postbaglaw14.SeqsBack'. -/
def seqsBackCard : Claim7 := { stood := { row := seqsBackRow, standIns := [], harness := (true, "66cdb34fab40043adebaf337d1a8a959e5cea9c4f2b11dafd544a9dfe6297236"), looks := true }, kinds := [], alts := [], laidByText := true, laidKinds := [.data, .data, .data, .data, .sentinel, .sentinel, .sentinel, .data, .pinned], laidTests := true, laidLooks := .later }
def SeqsBackCardSaid : Prop := Claim7.holds Tryz.pinned (.plain (OpenSpec.ofChange seqsBackSpec)) seqsBackCard

/-- THE TIED CARD OF 'postbaglaw14.SeqsTurns'. -/
def seqsTurnsCard : Claim7 := { stood := { row := seqsTurnsRow, standIns := [], harness := (true, "66cdb34fab40043adebaf337d1a8a959e5cea9c4f2b11dafd544a9dfe6297236"), looks := true }, kinds := [], alts := [], laidByText := true, laidKinds := [.data, .data, .data, .data, .sentinel, .sentinel, .sentinel, .data, .pinned], laidTests := true, laidLooks := .later }
def SeqsTurnsCardSaid : Prop := Claim7.holds Tryz.pinned (.plain (OpenSpec.ofChange seqsTurnsSpec)) seqsTurnsCard

/-- THE TIED CARD OF 'postbaglaw14.SeqsJoins'. -/
def seqsJoinsCard : Claim7 := { stood := { row := seqsJoinsRow, standIns := [], harness := (true, "66cdb34fab40043adebaf337d1a8a959e5cea9c4f2b11dafd544a9dfe6297236"), looks := true }, kinds := [], alts := [], laidByText := true, laidKinds := [.data, .data, .data, .data, .sentinel, .sentinel, .sentinel, .data, .pinned], laidTests := true, laidLooks := .later }
def SeqsJoinsCardSaid : Prop := Claim7.holds Tryz.pinned (.plain (OpenSpec.ofChange seqsJoinsSpec)) seqsJoinsCard

/-- THE SECOND FORM's CARD OF 'postbaglaw14.SeqsBack'. -/
def seqsBackUptoCard : Claim7 := { stood := { row := seqsBackUptoRow, standIns := [], harness := (true, "66cdb34fab40043adebaf337d1a8a959e5cea9c4f2b11dafd544a9dfe6297236"), looks := true }, kinds := [], alts := [], laidByText := true, laidKinds := [.data, .data, .data, .data, .sentinel, .sentinel, .sentinel, .data, .pinned], laidTests := true, laidLooks := .later }
def SeqsBackUptoCardSaid : Prop := Claim7.holds Tryz.pinned (.plain (OpenSpec.upto seqsBackSpec)) seqsBackUptoCard

/-- THE SECOND FORM's CARD OF 'postbaglaw14.SeqsTurns'. -/
def seqsTurnsUptoCard : Claim7 := { stood := { row := seqsTurnsUptoRow, standIns := [], harness := (true, "66cdb34fab40043adebaf337d1a8a959e5cea9c4f2b11dafd544a9dfe6297236"), looks := true }, kinds := [], alts := [], laidByText := true, laidKinds := [.data, .data, .data, .data, .sentinel, .sentinel, .sentinel, .data, .pinned], laidTests := true, laidLooks := .later }
def SeqsTurnsUptoCardSaid : Prop := Claim7.holds Tryz.pinned (.plain (OpenSpec.upto seqsTurnsSpec)) seqsTurnsUptoCard

/-- THE SECOND FORM's CARD OF 'postbaglaw14.SeqsJoins'. -/
def seqsJoinsUptoCard : Claim7 := { stood := { row := seqsJoinsUptoRow, standIns := [], harness := (true, "66cdb34fab40043adebaf337d1a8a959e5cea9c4f2b11dafd544a9dfe6297236"), looks := true }, kinds := [], alts := [], laidByText := true, laidKinds := [.data, .data, .data, .data, .sentinel, .sentinel, .sentinel, .data, .pinned], laidTests := true, laidLooks := .later }
def SeqsJoinsUptoCardSaid : Prop := Claim7.holds Tryz.pinned (.plain (OpenSpec.upto seqsJoinsSpec)) seqsJoinsUptoCard
end Rows
end Go.Proofs.YtbjencibkkhbhabGreatDoor
