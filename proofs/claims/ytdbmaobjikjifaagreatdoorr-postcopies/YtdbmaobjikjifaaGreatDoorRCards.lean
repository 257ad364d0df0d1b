/-
  DERIVED. GIVEN WITH THE SEED: THE CARDS: each row of YtdbmaobjikjifaaGreatDoorRRows.lean that lists a variable, with what it lists TIED to the program's text (the seventh form; the later family's looks); each row that meets fmt, with fmt's text TOLD by the authors' own Lean function (tested against real Go, not proved from fmt's source: count such statements apart). THE CARD IS WHAT COUNTS. Prove the row's statement (the work); the ties are given (YtdbmaobjikjifaaGreatDoorRTie.lean); close each card by the builder's one call (the guide's Derived/Test/ToyasCard.lean, 'card_holds'). Laid BY PROGRAM, IN A SANDBOX (cutbox-door.mjs). By AI agents, Wed Nov 11 2026. No macro, syntax, notation, axiom, sorry.
-/
import Derived.Test.YtdbmaobjikjifaaGreatDoorRRows
import GoSem.ClaimSeven
namespace Go.Proofs.YtdbmaobjikjifaaGreatDoorR
namespace Rows

/-- THE TIED CARD OF 'postbaglaw15.PostKeeps'. -/
def postKeepsCard : Claim7 := { stood := { row := postKeepsRow, standIns := [], harness := (true, "2291920d02def4e0e00814403fbe255ccb151e9aae7ff8d9006eeaf18da3c61f"), looks := false }, kinds := [], alts := [], laidByText := true, laidKinds := [.data, .sentinel, .sentinel, .sentinel, .sentinel, .sentinel, .sentinel, .sentinel, .sentinel, .pinned], laidTests := true, laidLooks := .later }
def PostKeepsCardSaid : Prop := Claim7.holds Tryz.pinned (.plain (OpenSpec.ofChange postKeepsSpec)) postKeepsCard

/-- THE TIED CARD OF 'postbaglaw15.PostCopies'. -/
def postCopiesCard : Claim7 := { stood := { row := postCopiesRow, standIns := [], harness := (true, "2291920d02def4e0e00814403fbe255ccb151e9aae7ff8d9006eeaf18da3c61f"), looks := false }, kinds := [], alts := [], laidByText := true, laidKinds := [.data, .sentinel, .sentinel, .sentinel, .sentinel, .sentinel, .sentinel, .sentinel, .sentinel, .pinned], laidTests := true, laidLooks := .later }
def PostCopiesCardSaid : Prop := Claim7.holds Tryz.pinned (.plain (OpenSpec.ofChange postCopiesSpec)) postCopiesCard

/-- THE SECOND FORM's CARD OF 'postbaglaw15.PostKeeps'. -/
def postKeepsUptoCard : Claim7 := { stood := { row := postKeepsUptoRow, standIns := [], harness := (true, "2291920d02def4e0e00814403fbe255ccb151e9aae7ff8d9006eeaf18da3c61f"), looks := false }, kinds := [], alts := [], laidByText := true, laidKinds := [.data, .sentinel, .sentinel, .sentinel, .sentinel, .sentinel, .sentinel, .sentinel, .sentinel, .pinned], laidTests := true, laidLooks := .later }
def PostKeepsUptoCardSaid : Prop := Claim7.holds Tryz.pinned (.plain (OpenSpec.upto postKeepsSpec)) postKeepsUptoCard

/-- THE SECOND FORM's CARD OF 'postbaglaw15.PostCopies'. -/
def postCopiesUptoCard : Claim7 := { stood := { row := postCopiesUptoRow, standIns := [], harness := (true, "2291920d02def4e0e00814403fbe255ccb151e9aae7ff8d9006eeaf18da3c61f"), looks := false }, kinds := [], alts := [], laidByText := true, laidKinds := [.data, .sentinel, .sentinel, .sentinel, .sentinel, .sentinel, .sentinel, .sentinel, .sentinel, .pinned], laidTests := true, laidLooks := .later }
def PostCopiesUptoCardSaid : Prop := Claim7.holds Tryz.pinned (.plain (OpenSpec.upto postCopiesSpec)) postCopiesUptoCard
end Rows
end Go.Proofs.YtdbmaobjikjifaaGreatDoorR
