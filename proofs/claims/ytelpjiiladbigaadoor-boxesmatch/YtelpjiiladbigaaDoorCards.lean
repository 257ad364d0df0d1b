/-
  DERIVED. GIVEN WITH THE SEED: THE CARDS: each row of YtelpjiiladbigaaDoorRows.lean that lists a variable, with what it lists TIED to the program's text (the seventh form; the later family's looks); each row that meets fmt, with fmt's text TOLD by the authors' own Lean function (tested against real Go, not proved from fmt's source: count such statements apart). THE CARD IS WHAT COUNTS. Prove the row's statement (the work); the ties are given (YtelpjiiladbigaaDoorTie.lean); close each card by the builder's one call (the guide's Derived/Test/ToyasCard.lean, 'card_holds'). Laid BY PROGRAM, IN A SANDBOX (cutbox-door.mjs). By AI agents, Wed Nov 11 2026. No macro, syntax, notation, axiom, sorry.
-/
import Derived.Test.YtelpjiiladbigaaDoorRows
import GoSem.ClaimSeven
namespace Go.Proofs.YtelpjiiladbigaaDoor
namespace Rows

/-- THE TIED CARD OF 'postbaglaw13.BoxesNames'. -/
def boxesNamesCard : Claim7 := { stood := { row := boxesNamesRow, standIns := [], harness := (true, "9eacd60e1fac9e1112baf06be490c5ebca825c4022a112178e8c609491d57a6f"), looks := true }, kinds := [], alts := [], laidByText := true, laidKinds := [.data, .sentinel, .sentinel, .sentinel, .sentinel, .sentinel, .sentinel, .sentinel, .sentinel, .sentinel, .sentinel, .sentinel, .sentinel, .sentinel, .pinned], laidTests := true, laidLooks := .later }
def BoxesNamesCardSaid : Prop := Claim7.holds Tryd.pinned (.plain (OpenSpec.ofChange boxesNamesSpec)) boxesNamesCard

/-- THE TIED CARD OF 'postbaglaw13.BoxesFits'. -/
def boxesFitsCard : Claim7 := { stood := { row := boxesFitsRow, standIns := [], harness := (true, "9eacd60e1fac9e1112baf06be490c5ebca825c4022a112178e8c609491d57a6f"), looks := true }, kinds := [], alts := [], laidByText := true, laidKinds := [.data, .pinned], laidTests := true, laidLooks := .later }
def BoxesFitsCardSaid : Prop := Claim7.holds Tryd.pinned (.plain (OpenSpec.ofChange boxesFitsSpec)) boxesFitsCard

/-- THE TIED CARD OF 'postbaglaw13.BoxesMoves'. -/
def boxesMovesCard : Claim7 := { stood := { row := boxesMovesRow, standIns := [], harness := (true, "9eacd60e1fac9e1112baf06be490c5ebca825c4022a112178e8c609491d57a6f"), looks := true }, kinds := [], alts := [], laidByText := true, laidKinds := [.data, .pinned], laidTests := true, laidLooks := .later }
def BoxesMovesCardSaid : Prop := Claim7.holds Tryd.pinned (.plain (OpenSpec.ofChange boxesMovesSpec)) boxesMovesCard

/-- THE TIED CARD OF 'postbaglaw13.BoxesMatch'. -/
def boxesMatchCard : Claim7 := { stood := { row := boxesMatchRow, standIns := [], harness := (true, "9eacd60e1fac9e1112baf06be490c5ebca825c4022a112178e8c609491d57a6f"), looks := true }, kinds := [], alts := [], laidByText := true, laidKinds := [.data, .pinned], laidTests := true, laidLooks := .later }
def BoxesMatchCardSaid : Prop := Claim7.holds Tryd.pinned (.plain (OpenSpec.ofChange boxesMatchSpec)) boxesMatchCard

/-- THE TIED CARD OF 'postbaglaw13.BoxesStars'. -/
def boxesStarsCard : Claim7 := { stood := { row := boxesStarsRow, standIns := [], harness := (true, "9eacd60e1fac9e1112baf06be490c5ebca825c4022a112178e8c609491d57a6f"), looks := true }, kinds := [], alts := [], laidByText := true, laidKinds := [.data, .pinned], laidTests := true, laidLooks := .later }
def BoxesStarsCardSaid : Prop := Claim7.holds Tryd.pinned (.plain (OpenSpec.ofChange boxesStarsSpec)) boxesStarsCard

/-- THE TIED CARD OF 'postbaglaw13.BoxesUnder'. -/
def boxesUnderCard : Claim7 := { stood := { row := boxesUnderRow, standIns := [], harness := (true, "9eacd60e1fac9e1112baf06be490c5ebca825c4022a112178e8c609491d57a6f"), looks := true }, kinds := [], alts := [], laidByText := true, laidKinds := [.data, .sentinel, .pinned], laidTests := true, laidLooks := .later }
def BoxesUnderCardSaid : Prop := Claim7.holds Tryd.pinned (.plain (OpenSpec.ofChange boxesUnderSpec)) boxesUnderCard

/-- THE SECOND FORM's CARD OF 'postbaglaw13.BoxesNames'. -/
def boxesNamesUptoCard : Claim7 := { stood := { row := boxesNamesUptoRow, standIns := [], harness := (true, "9eacd60e1fac9e1112baf06be490c5ebca825c4022a112178e8c609491d57a6f"), looks := true }, kinds := [], alts := [], laidByText := true, laidKinds := [.data, .sentinel, .sentinel, .sentinel, .sentinel, .sentinel, .sentinel, .sentinel, .sentinel, .sentinel, .sentinel, .sentinel, .sentinel, .sentinel, .pinned], laidTests := true, laidLooks := .later }
def BoxesNamesUptoCardSaid : Prop := Claim7.holds Tryd.pinned (.plain (OpenSpec.upto boxesNamesSpec)) boxesNamesUptoCard

/-- THE SECOND FORM's CARD OF 'postbaglaw13.BoxesFits'. -/
def boxesFitsUptoCard : Claim7 := { stood := { row := boxesFitsUptoRow, standIns := [], harness := (true, "9eacd60e1fac9e1112baf06be490c5ebca825c4022a112178e8c609491d57a6f"), looks := true }, kinds := [], alts := [], laidByText := true, laidKinds := [.data, .pinned], laidTests := true, laidLooks := .later }
def BoxesFitsUptoCardSaid : Prop := Claim7.holds Tryd.pinned (.plain (OpenSpec.upto boxesFitsSpec)) boxesFitsUptoCard

/-- THE SECOND FORM's CARD OF 'postbaglaw13.BoxesMoves'. -/
def boxesMovesUptoCard : Claim7 := { stood := { row := boxesMovesUptoRow, standIns := [], harness := (true, "9eacd60e1fac9e1112baf06be490c5ebca825c4022a112178e8c609491d57a6f"), looks := true }, kinds := [], alts := [], laidByText := true, laidKinds := [.data, .pinned], laidTests := true, laidLooks := .later }
def BoxesMovesUptoCardSaid : Prop := Claim7.holds Tryd.pinned (.plain (OpenSpec.upto boxesMovesSpec)) boxesMovesUptoCard

/-- THE SECOND FORM's CARD OF 'postbaglaw13.BoxesMatch'. -/
def boxesMatchUptoCard : Claim7 := { stood := { row := boxesMatchUptoRow, standIns := [], harness := (true, "9eacd60e1fac9e1112baf06be490c5ebca825c4022a112178e8c609491d57a6f"), looks := true }, kinds := [], alts := [], laidByText := true, laidKinds := [.data, .pinned], laidTests := true, laidLooks := .later }
def BoxesMatchUptoCardSaid : Prop := Claim7.holds Tryd.pinned (.plain (OpenSpec.upto boxesMatchSpec)) boxesMatchUptoCard

/-- THE SECOND FORM's CARD OF 'postbaglaw13.BoxesStars'. -/
def boxesStarsUptoCard : Claim7 := { stood := { row := boxesStarsUptoRow, standIns := [], harness := (true, "9eacd60e1fac9e1112baf06be490c5ebca825c4022a112178e8c609491d57a6f"), looks := true }, kinds := [], alts := [], laidByText := true, laidKinds := [.data, .pinned], laidTests := true, laidLooks := .later }
def BoxesStarsUptoCardSaid : Prop := Claim7.holds Tryd.pinned (.plain (OpenSpec.upto boxesStarsSpec)) boxesStarsUptoCard

/-- THE SECOND FORM's CARD OF 'postbaglaw13.BoxesUnder'. -/
def boxesUnderUptoCard : Claim7 := { stood := { row := boxesUnderUptoRow, standIns := [], harness := (true, "9eacd60e1fac9e1112baf06be490c5ebca825c4022a112178e8c609491d57a6f"), looks := true }, kinds := [], alts := [], laidByText := true, laidKinds := [.data, .sentinel, .pinned], laidTests := true, laidLooks := .later }
def BoxesUnderUptoCardSaid : Prop := Claim7.holds Tryd.pinned (.plain (OpenSpec.upto boxesUnderSpec)) boxesUnderUptoCard
end Rows
end Go.Proofs.YtelpjiiladbigaaDoor
