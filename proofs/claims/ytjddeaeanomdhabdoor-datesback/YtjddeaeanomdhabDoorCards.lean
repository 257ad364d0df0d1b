/-
  DERIVED. GIVEN WITH THE SEED: THE CARDS: each row of YtjddeaeanomdhabDoorRows.lean that lists a variable, with what it lists TIED to the program's text (the seventh form; the later family's looks); each row that meets fmt, with fmt's text TOLD by the authors' own Lean function (tested against real Go, not proved from fmt's source: count such statements apart). THE CARD IS WHAT COUNTS. Prove the row's statement (the work); the ties are given (YtjddeaeanomdhabDoorTie.lean); close each card by the builder's one call (the guide's Derived/Test/ToyasCard.lean, 'card_holds'). Laid BY PROGRAM, IN A SANDBOX (cutbox-door.mjs). By AI agents, Wed Nov 11 2026. No macro, syntax, notation, axiom, sorry.
-/
import Derived.Test.YtjddeaeanomdhabDoorRows
import GoSem.ClaimSeven
namespace Go.Proofs.YtjddeaeanomdhabDoor
namespace Rows

/-- THE TIED CARD OF 'postbaglaw01.DatesFields'. -/
def datesFieldsCard : Claim7 := { stood := { row := datesFieldsRow, standIns := [], harness := (true, "5e1d07e98b22c756a72b77cca7f948c42e085a1a5097e35a8ba7dd476ad7fc5d"), looks := true }, kinds := [], alts := [], laidByText := true, laidKinds := [.sentinel, .sentinel, .sentinel, .sentinel, .sentinel, .sentinel, .sentinel, .sentinel, .sentinel, .sentinel, .sentinel, .sentinel, .sentinel], laidTests := true, laidLooks := .later }
def DatesFieldsCardSaid : Prop := Claim7.holds Tryd.pinned (.plain (OpenSpec.ofChange datesFieldsSpec)) datesFieldsCard

/-- THE TIED CARD OF 'postbaglaw01.DatesYears'. -/
def datesYearsCard : Claim7 := { stood := { row := datesYearsRow, standIns := [], harness := (true, "5e1d07e98b22c756a72b77cca7f948c42e085a1a5097e35a8ba7dd476ad7fc5d"), looks := true }, kinds := [], alts := [], laidByText := true, laidKinds := [.sentinel], laidTests := true, laidLooks := .later }
def DatesYearsCardSaid : Prop := Claim7.holds Tryd.pinned (.plain (OpenSpec.ofChange datesYearsSpec)) datesYearsCard

/-- THE TIED CARD OF 'postbaglaw01.DatesBack'. -/
def datesBackCard : Claim7 := { stood := { row := datesBackRow, standIns := [], harness := (true, "5e1d07e98b22c756a72b77cca7f948c42e085a1a5097e35a8ba7dd476ad7fc5d"), looks := true }, kinds := [], alts := [], laidByText := true, laidKinds := [.data, .data, .data, .sentinel, .sentinel], laidTests := true, laidLooks := .later }
def DatesBackCardSaid : Prop := Claim7.holds Tryd.pinned (.plain (OpenSpec.ofChange datesBackSpec)) datesBackCard

/-- THE TIED CARD OF 'postbaglaw01.DatesNext'. -/
def datesNextCard : Claim7 := { stood := { row := datesNextRow, standIns := [], harness := (true, "5e1d07e98b22c756a72b77cca7f948c42e085a1a5097e35a8ba7dd476ad7fc5d"), looks := true }, kinds := [], alts := [], laidByText := true, laidKinds := [.sentinel], laidTests := true, laidLooks := .later }
def DatesNextCardSaid : Prop := Claim7.holds Tryd.pinned (.plain (OpenSpec.ofChange datesNextSpec)) datesNextCard

/-- THE SECOND FORM's CARD OF 'postbaglaw01.DatesFields'. -/
def datesFieldsUptoCard : Claim7 := { stood := { row := datesFieldsUptoRow, standIns := [], harness := (true, "5e1d07e98b22c756a72b77cca7f948c42e085a1a5097e35a8ba7dd476ad7fc5d"), looks := true }, kinds := [], alts := [], laidByText := true, laidKinds := [.sentinel, .sentinel, .sentinel, .sentinel, .sentinel, .sentinel, .sentinel, .sentinel, .sentinel, .sentinel, .sentinel, .sentinel, .sentinel], laidTests := true, laidLooks := .later }
def DatesFieldsUptoCardSaid : Prop := Claim7.holds Tryd.pinned (.plain (OpenSpec.upto datesFieldsSpec)) datesFieldsUptoCard

/-- THE SECOND FORM's CARD OF 'postbaglaw01.DatesYears'. -/
def datesYearsUptoCard : Claim7 := { stood := { row := datesYearsUptoRow, standIns := [], harness := (true, "5e1d07e98b22c756a72b77cca7f948c42e085a1a5097e35a8ba7dd476ad7fc5d"), looks := true }, kinds := [], alts := [], laidByText := true, laidKinds := [.sentinel], laidTests := true, laidLooks := .later }
def DatesYearsUptoCardSaid : Prop := Claim7.holds Tryd.pinned (.plain (OpenSpec.upto datesYearsSpec)) datesYearsUptoCard

/-- THE SECOND FORM's CARD OF 'postbaglaw01.DatesBack'. -/
def datesBackUptoCard : Claim7 := { stood := { row := datesBackUptoRow, standIns := [], harness := (true, "5e1d07e98b22c756a72b77cca7f948c42e085a1a5097e35a8ba7dd476ad7fc5d"), looks := true }, kinds := [], alts := [], laidByText := true, laidKinds := [.data, .data, .data, .sentinel, .sentinel], laidTests := true, laidLooks := .later }
def DatesBackUptoCardSaid : Prop := Claim7.holds Tryd.pinned (.plain (OpenSpec.upto datesBackSpec)) datesBackUptoCard

/-- THE SECOND FORM's CARD OF 'postbaglaw01.DatesNext'. -/
def datesNextUptoCard : Claim7 := { stood := { row := datesNextUptoRow, standIns := [], harness := (true, "5e1d07e98b22c756a72b77cca7f948c42e085a1a5097e35a8ba7dd476ad7fc5d"), looks := true }, kinds := [], alts := [], laidByText := true, laidKinds := [.sentinel], laidTests := true, laidLooks := .later }
def DatesNextUptoCardSaid : Prop := Claim7.holds Tryd.pinned (.plain (OpenSpec.upto datesNextSpec)) datesNextUptoCard
end Rows
end Go.Proofs.YtjddeaeanomdhabDoor
