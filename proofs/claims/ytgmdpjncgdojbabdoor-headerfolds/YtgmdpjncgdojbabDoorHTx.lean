/- A slice that reads as texts. -/
import Derived.Test.YtgmdpjncgdojbabDoorOwn
namespace Go.Proofs.YtgmdpjncgdojbabDoor
open Go.RowKit
/-- A slice that reads as these texts. -/
def TX (w : World) (v : Value) (xs : List (List UInt8)) : Prop := ∃ A cap, v = .slice A xs.length cap ∧ ∀ i (hi : i < xs.length), ∃ g o, A = some ⟨g, o, none⟩ ∧ g < w.heap.size ∧ w.cell? ⟨g, o + i, none⟩ = some (.string ⟨xs[i].toArray⟩)
theorem TX.below {w w' : World} {v : Value} {xs : List (List UInt8)} (h : TX w v xs) (hb : Below w.heap.size w w') : TX w' v xs := by
  obtain ⟨A, c, rfl, h⟩ := h
  refine ⟨A, c, rfl, fun i hi => ?_⟩
  obtain ⟨g, o, e, hg, c0⟩ := h i hi
  exact ⟨g, o, e, Nat.lt_of_lt_of_le hg hb.size, (hb.cell (p := ⟨g, _, none⟩) hg).trans c0⟩
end Go.Proofs.YtgmdpjncgdojbabDoor
