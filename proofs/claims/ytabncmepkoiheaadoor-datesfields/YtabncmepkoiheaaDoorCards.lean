/-
  DERIVED. GIVEN WITH THE SEED: THE CARDS: each row of YtabncmepkoiheaaDoorRows.lean that lists a variable, with what it lists TIED to the program's text (the seventh form; the later family's looks); each row that meets fmt, with fmt's text TOLD by the authors' own Lean function (tested against real Go, not proved from fmt's source: count such statements apart). THE CARD IS WHAT COUNTS. Prove the row's statement (the work); the ties are given (YtabncmepkoiheaaDoorTie.lean); close each card by the builder's one call (the guide's Derived/Test/ToyasCard.lean, 'card_holds'). Laid BY PROGRAM, IN A SANDBOX (cutbox-door.mjs). By AI agents, Wed Nov 11 2026. No macro, syntax, notation, axiom, sorry.
-/
import Derived.Test.YtabncmepkoiheaaDoorRows
import GoSem.ClaimSeven
namespace Go.Proofs.YtabncmepkoiheaaDoor
namespace Rows

/-- THE TIED CARD OF 'postbaglaw01.DatesReads'. -/
def datesReadsCard : Claim7 := { stood := { row := datesReadsRow, standIns := [], harness := (true, "8ff96fff38bbb6c8eaefd2dfb62b9563c5b30995efdfcfc59647fd84b35eeeef"), looks := true }, kinds := [], alts := [], laidByText := true, laidKinds := [.sentinel, .sentinel, .sentinel, .sentinel, .sentinel, .sentinel, .sentinel, .sentinel, .sentinel, .sentinel, .sentinel, .sentinel, .sentinel], laidTests := true, laidLooks := .later }
def DatesReadsCardSaid : Prop := Claim7.holds Tryd.pinned (.plain (OpenSpec.ofChange datesReadsSpec)) datesReadsCard

/-- THE TIED CARD OF 'postbaglaw01.DatesDays'. -/
def datesDaysCard : Claim7 := { stood := { row := datesDaysRow, standIns := [], harness := (true, "8ff96fff38bbb6c8eaefd2dfb62b9563c5b30995efdfcfc59647fd84b35eeeef"), looks := true }, kinds := [], alts := [], laidByText := true, laidKinds := [.sentinel, .sentinel, .sentinel, .sentinel, .sentinel, .sentinel, .sentinel, .sentinel, .sentinel, .sentinel, .sentinel, .sentinel, .sentinel], laidTests := true, laidLooks := .later }
def DatesDaysCardSaid : Prop := Claim7.holds Tryd.pinned (.plain (OpenSpec.ofChange datesDaysSpec)) datesDaysCard

/-- THE TIED CARD OF 'postbaglaw01.DatesFields'. -/
def datesFieldsCard : Claim7 := { stood := { row := datesFieldsRow, standIns := [], harness := (true, "8ff96fff38bbb6c8eaefd2dfb62b9563c5b30995efdfcfc59647fd84b35eeeef"), looks := true }, kinds := [], alts := [], laidByText := true, laidKinds := [.sentinel, .sentinel, .sentinel, .sentinel, .sentinel, .sentinel, .sentinel, .sentinel, .sentinel, .sentinel, .sentinel, .sentinel, .sentinel], laidTests := true, laidLooks := .later }
def DatesFieldsCardSaid : Prop := Claim7.holds Tryd.pinned (.plain (OpenSpec.ofChange datesFieldsSpec)) datesFieldsCard

/-- THE SECOND FORM's CARD OF 'postbaglaw01.DatesReads'. -/
def datesReadsUptoCard : Claim7 := { stood := { row := datesReadsUptoRow, standIns := [], harness := (true, "8ff96fff38bbb6c8eaefd2dfb62b9563c5b30995efdfcfc59647fd84b35eeeef"), looks := true }, kinds := [], alts := [], laidByText := true, laidKinds := [.sentinel, .sentinel, .sentinel, .sentinel, .sentinel, .sentinel, .sentinel, .sentinel, .sentinel, .sentinel, .sentinel, .sentinel, .sentinel], laidTests := true, laidLooks := .later }
def DatesReadsUptoCardSaid : Prop := Claim7.holds Tryd.pinned (.plain (OpenSpec.upto datesReadsSpec)) datesReadsUptoCard

/-- THE SECOND FORM's CARD OF 'postbaglaw01.DatesDays'. -/
def datesDaysUptoCard : Claim7 := { stood := { row := datesDaysUptoRow, standIns := [], harness := (true, "8ff96fff38bbb6c8eaefd2dfb62b9563c5b30995efdfcfc59647fd84b35eeeef"), looks := true }, kinds := [], alts := [], laidByText := true, laidKinds := [.sentinel, .sentinel, .sentinel, .sentinel, .sentinel, .sentinel, .sentinel, .sentinel, .sentinel, .sentinel, .sentinel, .sentinel, .sentinel], laidTests := true, laidLooks := .later }
def DatesDaysUptoCardSaid : Prop := Claim7.holds Tryd.pinned (.plain (OpenSpec.upto datesDaysSpec)) datesDaysUptoCard

/-- THE SECOND FORM's CARD OF 'postbaglaw01.DatesFields'. -/
def datesFieldsUptoCard : Claim7 := { stood := { row := datesFieldsUptoRow, standIns := [], harness := (true, "8ff96fff38bbb6c8eaefd2dfb62b9563c5b30995efdfcfc59647fd84b35eeeef"), looks := true }, kinds := [], alts := [], laidByText := true, laidKinds := [.sentinel, .sentinel, .sentinel, .sentinel, .sentinel, .sentinel, .sentinel, .sentinel, .sentinel, .sentinel, .sentinel, .sentinel, .sentinel], laidTests := true, laidLooks := .later }
def DatesFieldsUptoCardSaid : Prop := Claim7.holds Tryd.pinned (.plain (OpenSpec.upto datesFieldsSpec)) datesFieldsUptoCard
end Rows
end Go.Proofs.YtabncmepkoiheaaDoor
