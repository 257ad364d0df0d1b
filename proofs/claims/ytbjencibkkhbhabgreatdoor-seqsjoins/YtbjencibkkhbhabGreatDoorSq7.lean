/- The document's Set of layer 14, of any text. -/
import Derived.Test.YtbjencibkkhbhabGreatDoorSq6
set_option linter.unusedSimpArgs false
set_option linter.unusedVariables false
namespace Go.Proofs.YtbjencibkkhbhabGreatDoor
open Go.RowKit Go.Shelf
/-- What Cut has made, as it is read. -/
def Cu (W w' : World) (A : Option Addr) (l : List (List UInt8)) : Prop := Below W.heap.size W w' ∧ ∀ k (hk : k < l.length), ∃ g o, A = some ⟨g, o, none⟩ ∧ (W.heap.size ≤ g ∧ g < w'.heap.size) ∧ w'.cell? ⟨g, o + k, none⟩ = some (.string ⟨l[k].toArray⟩)
end Go.Proofs.YtbjencibkkhbhabGreatDoor
