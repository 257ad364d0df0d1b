/-
  DERIVED. GIVEN WITH THE SEED: THE CARDS: each row of YtnokanmcgpjkmaaDoorRows.lean that lists a variable, with what it lists TIED to the program's text (the seventh form; the later family's looks); each row that meets fmt, with fmt's text TOLD by the authors' own Lean function (tested against real Go, not proved from fmt's source: count such statements apart). THE CARD IS WHAT COUNTS. Prove the row's statement (the work); the ties are given (YtnokanmcgpjkmaaDoorTie.lean); close each card by the builder's one call (the guide's Derived/Test/ToyasCard.lean, 'card_holds'). Laid BY PROGRAM, IN A SANDBOX (cutbox-door.mjs). By AI agents, Wed Nov 11 2026. No macro, syntax, notation, axiom, sorry.
-/
import Derived.Test.YtnokanmcgpjkmaaDoorRows
import GoSem.ClaimSeven
namespace Go.Proofs.YtnokanmcgpjkmaaDoor
namespace Rows

/-- THE TIED CARD OF 'postbaglaw12.SectionPartial'. -/
def sectionPartialCard : Claim7 := { stood := { row := sectionPartialRow, standIns := [], harness := (true, "ab755ae40c009765618738b7bc8a25cd4d6a68e780082c73a7b92d55ef904f6b"), looks := true }, kinds := [], alts := [], laidByText := true, laidKinds := [.data, .data, .data, .data, .sentinel, .sentinel, .sentinel, .pinned], laidTests := true, laidLooks := .later }
def SectionPartialCardSaid : Prop := Claim7.holds Tryd.pinned (.plain (OpenSpec.ofChange sectionPartialSpec)) sectionPartialCard

/-- THE SECOND FORM's CARD OF 'postbaglaw12.SectionPartial'. -/
def sectionPartialUptoCard : Claim7 := { stood := { row := sectionPartialUptoRow, standIns := [], harness := (true, "ab755ae40c009765618738b7bc8a25cd4d6a68e780082c73a7b92d55ef904f6b"), looks := true }, kinds := [], alts := [], laidByText := true, laidKinds := [.data, .data, .data, .data, .sentinel, .sentinel, .sentinel, .pinned], laidTests := true, laidLooks := .later }
def SectionPartialUptoCardSaid : Prop := Claim7.holds Tryd.pinned (.plain (OpenSpec.upto sectionPartialSpec)) sectionPartialUptoCard
end Rows
end Go.Proofs.YtnokanmcgpjkmaaDoor
