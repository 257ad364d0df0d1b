/-
  DERIVED. GIVEN WITH THE SEED: THE CARDS: each row of YtbjencibkkhbhaaGreatDoorRows.lean that lists a variable, with what it lists TIED to the program's text (the seventh form; the later family's looks); each row that meets fmt, with fmt's text TOLD by the authors' own Lean function (tested against real Go, not proved from fmt's source: count such statements apart). THE CARD IS WHAT COUNTS. Prove the row's statement (the work); the ties are given (YtbjencibkkhbhaaGreatDoorTie.lean); close each card by the builder's one call (the guide's Derived/Test/ToyasCard.lean, 'card_holds'). Laid BY PROGRAM, IN A SANDBOX (cutbox-door.mjs). By AI agents, Wed Nov 11 2026. No macro, syntax, notation, axiom, sorry.
-/
import Derived.Test.YtbjencibkkhbhaaGreatDoorRows
import GoSem.ClaimSeven
namespace Go.Proofs.YtbjencibkkhbhaaGreatDoor
namespace Rows

/-- THE TIED CARD OF 'postbaglaw14.SeqsSets'. -/
def seqsSetsCard : Claim7 := { stood := { row := seqsSetsRow, standIns := [], harness := (true, "d060a010eef9549dceb93687bc526d677c37f7f13b85e2b567271f2f8f4b3a8f"), looks := true }, kinds := [], alts := [], laidByText := true, laidKinds := [.data, .data, .data, .data, .sentinel, .sentinel, .sentinel, .sentinel, .sentinel, .sentinel, .sentinel, .sentinel, .sentinel, .sentinel, .sentinel, .sentinel, .sentinel, .sentinel, .sentinel, .data, .pinned], laidTests := true, laidLooks := .later }
def SeqsSetsCardSaid : Prop := Claim7.holds Tryz.pinned (.plain (OpenSpec.ofChange seqsSetsSpec)) seqsSetsCard

/-- THE TIED CARD OF 'postbaglaw14.SeqsTexts'. -/
def seqsTextsCard : Claim7 := { stood := { row := seqsTextsRow, standIns := [], harness := (true, "d060a010eef9549dceb93687bc526d677c37f7f13b85e2b567271f2f8f4b3a8f"), looks := true }, kinds := [], alts := [], laidByText := true, laidKinds := [.data, .data, .data, .data, .sentinel, .sentinel, .sentinel, .sentinel, .sentinel, .sentinel, .sentinel, .sentinel, .sentinel, .sentinel, .sentinel, .sentinel, .sentinel, .sentinel, .sentinel, .data, .pinned], laidTests := true, laidLooks := .later }
def SeqsTextsCardSaid : Prop := Claim7.holds Tryz.pinned (.plain (OpenSpec.ofChange seqsTextsSpec)) seqsTextsCard

/-- THE TIED CARD OF 'postbaglaw14.SeqsHas'. -/
def seqsHasCard : Claim7 := { stood := { row := seqsHasRow, standIns := [], harness := (true, "d060a010eef9549dceb93687bc526d677c37f7f13b85e2b567271f2f8f4b3a8f"), looks := true }, kinds := [], alts := [], laidByText := true, laidKinds := [.data, .data, .data, .data, .sentinel, .sentinel, .sentinel, .data, .pinned], laidTests := true, laidLooks := .later }
def SeqsHasCardSaid : Prop := Claim7.holds Tryz.pinned (.plain (OpenSpec.ofChange seqsHasSpec)) seqsHasCard

/-- THE TIED CARD OF 'postbaglaw14.SeqsOf'. -/
def seqsOfCard : Claim7 := { stood := { row := seqsOfRow, standIns := [], harness := (true, "d060a010eef9549dceb93687bc526d677c37f7f13b85e2b567271f2f8f4b3a8f"), looks := true }, kinds := [], alts := [], laidByText := true, laidKinds := [.data, .data, .data, .data, .sentinel, .sentinel, .sentinel, .data, .pinned], laidTests := true, laidLooks := .later }
def SeqsOfCardSaid : Prop := Claim7.holds Tryz.pinned (.plain (OpenSpec.ofChange seqsOfSpec)) seqsOfCard

/-- THE TIED CARD OF 'postbaglaw14.SeqsFlags'. -/
def seqsFlagsCard : Claim7 := { stood := { row := seqsFlagsRow, standIns := [], harness := (true, "d060a010eef9549dceb93687bc526d677c37f7f13b85e2b567271f2f8f4b3a8f"), looks := true }, kinds := [], alts := [], laidByText := true, laidKinds := [.data, .data, .data, .data, .sentinel, .sentinel, .sentinel, .sentinel, .sentinel, .sentinel, .sentinel, .sentinel, .sentinel, .sentinel, .sentinel, .sentinel, .sentinel, .sentinel, .sentinel, .data, .pinned], laidTests := true, laidLooks := .later }
def SeqsFlagsCardSaid : Prop := Claim7.holds Tryz.pinned (.plain (OpenSpec.ofChange seqsFlagsSpec)) seqsFlagsCard

/-- THE TIED CARD OF 'postbaglaw14.SeqsNumbers'. -/
def seqsNumbersCard : Claim7 := { stood := { row := seqsNumbersRow, standIns := [], harness := (true, "d060a010eef9549dceb93687bc526d677c37f7f13b85e2b567271f2f8f4b3a8f"), looks := true }, kinds := [], alts := [], laidByText := true, laidKinds := [.data, .data, .data, .data, .sentinel, .sentinel, .sentinel, .sentinel, .sentinel, .sentinel, .sentinel, .sentinel, .sentinel, .sentinel, .sentinel, .sentinel, .sentinel, .sentinel, .sentinel, .data, .pinned], laidTests := true, laidLooks := .later }
def SeqsNumbersCardSaid : Prop := Claim7.holds Tryz.pinned (.plain (OpenSpec.ofChange seqsNumbersSpec)) seqsNumbersCard

/-- THE SECOND FORM's CARD OF 'postbaglaw14.SeqsSets'. -/
def seqsSetsUptoCard : Claim7 := { stood := { row := seqsSetsUptoRow, standIns := [], harness := (true, "d060a010eef9549dceb93687bc526d677c37f7f13b85e2b567271f2f8f4b3a8f"), looks := true }, kinds := [], alts := [], laidByText := true, laidKinds := [.data, .data, .data, .data, .sentinel, .sentinel, .sentinel, .sentinel, .sentinel, .sentinel, .sentinel, .sentinel, .sentinel, .sentinel, .sentinel, .sentinel, .sentinel, .sentinel, .sentinel, .data, .pinned], laidTests := true, laidLooks := .later }
def SeqsSetsUptoCardSaid : Prop := Claim7.holds Tryz.pinned (.plain (OpenSpec.upto seqsSetsSpec)) seqsSetsUptoCard

/-- THE SECOND FORM's CARD OF 'postbaglaw14.SeqsTexts'. -/
def seqsTextsUptoCard : Claim7 := { stood := { row := seqsTextsUptoRow, standIns := [], harness := (true, "d060a010eef9549dceb93687bc526d677c37f7f13b85e2b567271f2f8f4b3a8f"), looks := true }, kinds := [], alts := [], laidByText := true, laidKinds := [.data, .data, .data, .data, .sentinel, .sentinel, .sentinel, .sentinel, .sentinel, .sentinel, .sentinel, .sentinel, .sentinel, .sentinel, .sentinel, .sentinel, .sentinel, .sentinel, .sentinel, .data, .pinned], laidTests := true, laidLooks := .later }
def SeqsTextsUptoCardSaid : Prop := Claim7.holds Tryz.pinned (.plain (OpenSpec.upto seqsTextsSpec)) seqsTextsUptoCard

/-- THE SECOND FORM's CARD OF 'postbaglaw14.SeqsHas'. -/
def seqsHasUptoCard : Claim7 := { stood := { row := seqsHasUptoRow, standIns := [], harness := (true, "d060a010eef9549dceb93687bc526d677c37f7f13b85e2b567271f2f8f4b3a8f"), looks := true }, kinds := [], alts := [], laidByText := true, laidKinds := [.data, .data, .data, .data, .sentinel, .sentinel, .sentinel, .data, .pinned], laidTests := true, laidLooks := .later }
def SeqsHasUptoCardSaid : Prop := Claim7.holds Tryz.pinned (.plain (OpenSpec.upto seqsHasSpec)) seqsHasUptoCard

/-- THE SECOND FORM's CARD OF 'postbaglaw14.SeqsOf'. -/
def seqsOfUptoCard : Claim7 := { stood := { row := seqsOfUptoRow, standIns := [], harness := (true, "d060a010eef9549dceb93687bc526d677c37f7f13b85e2b567271f2f8f4b3a8f"), looks := true }, kinds := [], alts := [], laidByText := true, laidKinds := [.data, .data, .data, .data, .sentinel, .sentinel, .sentinel, .data, .pinned], laidTests := true, laidLooks := .later }
def SeqsOfUptoCardSaid : Prop := Claim7.holds Tryz.pinned (.plain (OpenSpec.upto seqsOfSpec)) seqsOfUptoCard

/-- THE SECOND FORM's CARD OF 'postbaglaw14.SeqsFlags'. -/
def seqsFlagsUptoCard : Claim7 := { stood := { row := seqsFlagsUptoRow, standIns := [], harness := (true, "d060a010eef9549dceb93687bc526d677c37f7f13b85e2b567271f2f8f4b3a8f"), looks := true }, kinds := [], alts := [], laidByText := true, laidKinds := [.data, .data, .data, .data, .sentinel, .sentinel, .sentinel, .sentinel, .sentinel, .sentinel, .sentinel, .sentinel, .sentinel, .sentinel, .sentinel, .sentinel, .sentinel, .sentinel, .sentinel, .data, .pinned], laidTests := true, laidLooks := .later }
def SeqsFlagsUptoCardSaid : Prop := Claim7.holds Tryz.pinned (.plain (OpenSpec.upto seqsFlagsSpec)) seqsFlagsUptoCard

/-- THE SECOND FORM's CARD OF 'postbaglaw14.SeqsNumbers'. -/
def seqsNumbersUptoCard : Claim7 := { stood := { row := seqsNumbersUptoRow, standIns := [], harness := (true, "d060a010eef9549dceb93687bc526d677c37f7f13b85e2b567271f2f8f4b3a8f"), looks := true }, kinds := [], alts := [], laidByText := true, laidKinds := [.data, .data, .data, .data, .sentinel, .sentinel, .sentinel, .sentinel, .sentinel, .sentinel, .sentinel, .sentinel, .sentinel, .sentinel, .sentinel, .sentinel, .sentinel, .sentinel, .sentinel, .data, .pinned], laidTests := true, laidLooks := .later }
def SeqsNumbersUptoCardSaid : Prop := Claim7.holds Tryz.pinned (.plain (OpenSpec.upto seqsNumbersSpec)) seqsNumbersUptoCard
end Rows
end Go.Proofs.YtbjencibkkhbhaaGreatDoor
