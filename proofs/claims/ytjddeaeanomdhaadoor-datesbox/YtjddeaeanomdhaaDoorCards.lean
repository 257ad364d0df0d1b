/-
  DERIVED. GIVEN WITH THE SEED: THE CARDS: each row of YtjddeaeanomdhaaDoorRows.lean that lists a variable, with what it lists TIED to the program's text (the seventh form; the later family's looks); each row that meets fmt, with fmt's text TOLD by the authors' own Lean function (tested against real Go, not proved from fmt's source: count such statements apart). THE CARD IS WHAT COUNTS. Prove the row's statement (the work); the ties are given (YtjddeaeanomdhaaDoorTie.lean); close each card by the builder's one call (the guide's Derived/Test/ToyasCard.lean, 'card_holds'). Laid BY PROGRAM, IN A SANDBOX (cutbox-door.mjs). By AI agents, Wed Nov 11 2026. No macro, syntax, notation, axiom, sorry.
-/
import Derived.Test.YtjddeaeanomdhaaDoorRows
import GoSem.ClaimSeven
namespace Go.Proofs.YtjddeaeanomdhaaDoor
namespace Rows

/-- THE TIED CARD OF 'postbaglaw01.DatesCivil'. -/
def datesCivilCard : Claim7 := { stood := { row := datesCivilRow, standIns := [], harness := (true, "58061b8bf67142d162113bebb9051237eb5aaa71590e0715f9e4c1970fc553d6"), looks := true }, kinds := [], alts := [], laidByText := true, laidKinds := [.sentinel, .sentinel, .sentinel, .sentinel, .sentinel, .sentinel, .sentinel, .sentinel, .sentinel, .sentinel, .sentinel, .sentinel, .sentinel], laidTests := true, laidLooks := .later }
def DatesCivilCardSaid : Prop := Claim7.holds Tryd.pinned (.plain (OpenSpec.ofChange datesCivilSpec)) datesCivilCard

/-- THE TIED CARD OF 'postbaglaw01.DatesMail'. -/
def datesMailCard : Claim7 := { stood := { row := datesMailRow, standIns := [], harness := (true, "58061b8bf67142d162113bebb9051237eb5aaa71590e0715f9e4c1970fc553d6"), looks := true }, kinds := [], alts := [], laidByText := true, laidKinds := [.data, .data, .data, .sentinel, .sentinel, .sentinel, .sentinel, .sentinel, .sentinel, .sentinel, .sentinel, .sentinel, .sentinel, .sentinel, .sentinel, .sentinel], laidTests := true, laidLooks := .later }
def DatesMailCardSaid : Prop := Claim7.holds Tryd.pinned (.plain (OpenSpec.ofChange datesMailSpec)) datesMailCard

/-- THE TIED CARD OF 'postbaglaw01.DatesBox'. -/
def datesBoxCard : Claim7 := { stood := { row := datesBoxRow, standIns := [], harness := (true, "58061b8bf67142d162113bebb9051237eb5aaa71590e0715f9e4c1970fc553d6"), looks := true }, kinds := [], alts := [], laidByText := true, laidKinds := [.data, .data, .data, .sentinel, .sentinel, .sentinel, .sentinel, .sentinel, .sentinel, .sentinel, .sentinel, .sentinel, .sentinel, .sentinel, .sentinel, .sentinel], laidTests := true, laidLooks := .later }
def DatesBoxCardSaid : Prop := Claim7.holds Tryd.pinned (.plain (OpenSpec.ofChange datesBoxSpec)) datesBoxCard

/-- THE TIED CARD OF 'postbaglaw01.DatesInternal'. -/
def datesInternalCard : Claim7 := { stood := { row := datesInternalRow, standIns := [], harness := (true, "58061b8bf67142d162113bebb9051237eb5aaa71590e0715f9e4c1970fc553d6"), looks := true }, kinds := [], alts := [], laidByText := true, laidKinds := [.data, .data, .data, .sentinel, .sentinel, .sentinel, .sentinel, .sentinel, .sentinel, .sentinel, .sentinel, .sentinel, .sentinel, .sentinel, .sentinel, .sentinel], laidTests := true, laidLooks := .later }
def DatesInternalCardSaid : Prop := Claim7.holds Tryd.pinned (.plain (OpenSpec.ofChange datesInternalSpec)) datesInternalCard

/-- THE TIED CARD OF 'postbaglaw01.DatesReads'. -/
def datesReadsCard : Claim7 := { stood := { row := datesReadsRow, standIns := [], harness := (true, "58061b8bf67142d162113bebb9051237eb5aaa71590e0715f9e4c1970fc553d6"), looks := true }, kinds := [], alts := [], laidByText := true, laidKinds := [.sentinel, .sentinel, .sentinel, .sentinel, .sentinel, .sentinel, .sentinel, .sentinel, .sentinel, .sentinel, .sentinel, .sentinel, .sentinel], laidTests := true, laidLooks := .later }
def DatesReadsCardSaid : Prop := Claim7.holds Tryd.pinned (.plain (OpenSpec.ofChange datesReadsSpec)) datesReadsCard

/-- THE TIED CARD OF 'postbaglaw01.DatesDays'. -/
def datesDaysCard : Claim7 := { stood := { row := datesDaysRow, standIns := [], harness := (true, "58061b8bf67142d162113bebb9051237eb5aaa71590e0715f9e4c1970fc553d6"), looks := true }, kinds := [], alts := [], laidByText := true, laidKinds := [.sentinel, .sentinel, .sentinel, .sentinel, .sentinel, .sentinel, .sentinel, .sentinel, .sentinel, .sentinel, .sentinel, .sentinel, .sentinel], laidTests := true, laidLooks := .later }
def DatesDaysCardSaid : Prop := Claim7.holds Tryd.pinned (.plain (OpenSpec.ofChange datesDaysSpec)) datesDaysCard

/-- THE SECOND FORM's CARD OF 'postbaglaw01.DatesCivil'. -/
def datesCivilUptoCard : Claim7 := { stood := { row := datesCivilUptoRow, standIns := [], harness := (true, "58061b8bf67142d162113bebb9051237eb5aaa71590e0715f9e4c1970fc553d6"), looks := true }, kinds := [], alts := [], laidByText := true, laidKinds := [.sentinel, .sentinel, .sentinel, .sentinel, .sentinel, .sentinel, .sentinel, .sentinel, .sentinel, .sentinel, .sentinel, .sentinel, .sentinel], laidTests := true, laidLooks := .later }
def DatesCivilUptoCardSaid : Prop := Claim7.holds Tryd.pinned (.plain (OpenSpec.upto datesCivilSpec)) datesCivilUptoCard

/-- THE SECOND FORM's CARD OF 'postbaglaw01.DatesMail'. -/
def datesMailUptoCard : Claim7 := { stood := { row := datesMailUptoRow, standIns := [], harness := (true, "58061b8bf67142d162113bebb9051237eb5aaa71590e0715f9e4c1970fc553d6"), looks := true }, kinds := [], alts := [], laidByText := true, laidKinds := [.data, .data, .data, .sentinel, .sentinel, .sentinel, .sentinel, .sentinel, .sentinel, .sentinel, .sentinel, .sentinel, .sentinel, .sentinel, .sentinel, .sentinel], laidTests := true, laidLooks := .later }
def DatesMailUptoCardSaid : Prop := Claim7.holds Tryd.pinned (.plain (OpenSpec.upto datesMailSpec)) datesMailUptoCard

/-- THE SECOND FORM's CARD OF 'postbaglaw01.DatesBox'. -/
def datesBoxUptoCard : Claim7 := { stood := { row := datesBoxUptoRow, standIns := [], harness := (true, "58061b8bf67142d162113bebb9051237eb5aaa71590e0715f9e4c1970fc553d6"), looks := true }, kinds := [], alts := [], laidByText := true, laidKinds := [.data, .data, .data, .sentinel, .sentinel, .sentinel, .sentinel, .sentinel, .sentinel, .sentinel, .sentinel, .sentinel, .sentinel, .sentinel, .sentinel, .sentinel], laidTests := true, laidLooks := .later }
def DatesBoxUptoCardSaid : Prop := Claim7.holds Tryd.pinned (.plain (OpenSpec.upto datesBoxSpec)) datesBoxUptoCard

/-- THE SECOND FORM's CARD OF 'postbaglaw01.DatesInternal'. -/
def datesInternalUptoCard : Claim7 := { stood := { row := datesInternalUptoRow, standIns := [], harness := (true, "58061b8bf67142d162113bebb9051237eb5aaa71590e0715f9e4c1970fc553d6"), looks := true }, kinds := [], alts := [], laidByText := true, laidKinds := [.data, .data, .data, .sentinel, .sentinel, .sentinel, .sentinel, .sentinel, .sentinel, .sentinel, .sentinel, .sentinel, .sentinel, .sentinel, .sentinel, .sentinel], laidTests := true, laidLooks := .later }
def DatesInternalUptoCardSaid : Prop := Claim7.holds Tryd.pinned (.plain (OpenSpec.upto datesInternalSpec)) datesInternalUptoCard

/-- THE SECOND FORM's CARD OF 'postbaglaw01.DatesReads'. -/
def datesReadsUptoCard : Claim7 := { stood := { row := datesReadsUptoRow, standIns := [], harness := (true, "58061b8bf67142d162113bebb9051237eb5aaa71590e0715f9e4c1970fc553d6"), looks := true }, kinds := [], alts := [], laidByText := true, laidKinds := [.sentinel, .sentinel, .sentinel, .sentinel, .sentinel, .sentinel, .sentinel, .sentinel, .sentinel, .sentinel, .sentinel, .sentinel, .sentinel], laidTests := true, laidLooks := .later }
def DatesReadsUptoCardSaid : Prop := Claim7.holds Tryd.pinned (.plain (OpenSpec.upto datesReadsSpec)) datesReadsUptoCard

/-- THE SECOND FORM's CARD OF 'postbaglaw01.DatesDays'. -/
def datesDaysUptoCard : Claim7 := { stood := { row := datesDaysUptoRow, standIns := [], harness := (true, "58061b8bf67142d162113bebb9051237eb5aaa71590e0715f9e4c1970fc553d6"), looks := true }, kinds := [], alts := [], laidByText := true, laidKinds := [.sentinel, .sentinel, .sentinel, .sentinel, .sentinel, .sentinel, .sentinel, .sentinel, .sentinel, .sentinel, .sentinel, .sentinel, .sentinel], laidTests := true, laidLooks := .later }
def DatesDaysUptoCardSaid : Prop := Claim7.holds Tryd.pinned (.plain (OpenSpec.upto datesDaysSpec)) datesDaysUptoCard
end Rows
end Go.Proofs.YtjddeaeanomdhaaDoor
