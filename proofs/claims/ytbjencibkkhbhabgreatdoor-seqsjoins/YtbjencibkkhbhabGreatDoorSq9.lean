/- The document's Text of layer 14, of any ranges. -/
import Derived.Test.YtbjencibkkhbhabGreatDoorSq8
import Derived.Deep.CutBlock
import Derived.Deep.CutRange
set_option linter.unusedSimpArgs false
set_option linter.unusedVariables false
namespace Go.Proofs.YtbjencibkkhbhabGreatDoor
open Go.RowKit Go.Shelf
def txV (o : Option (List UInt8)) : Ending := .returned (.tuple #[.string ⟨(o.getD []).toArray⟩, .bool o.isSome])
/-- One end is put behind a text: a star, or its digits. -/
theorem end_digits {n : Nat} (h0 : n ≠ 0) : sqT1 n = Lib.decDigits n := by unfold sqT1; rw [if_neg h0]
end Go.Proofs.YtbjencibkkhbhabGreatDoor
