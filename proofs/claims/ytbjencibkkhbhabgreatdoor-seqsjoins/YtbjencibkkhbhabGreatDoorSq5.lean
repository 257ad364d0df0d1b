/- The document's Flags of layer 14, of any text. -/
import Derived.Test.YtbjencibkkhbhabGreatDoorSq4
import Derived.Deep.CutBlock
set_option linter.unusedSimpArgs false
set_option linter.unusedVariables false
namespace Go.Proofs.YtbjencibkkhbhabGreatDoor
open Go.RowKit Go.Shelf
end Go.Proofs.YtbjencibkkhbhabGreatDoor
