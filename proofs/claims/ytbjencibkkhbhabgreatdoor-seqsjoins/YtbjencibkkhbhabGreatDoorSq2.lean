/- The document's Has, In, Of of layer 14; rows of ranges and of numbers that are read; SameRanges, SameInts of one row in two places. -/
import Derived.Test.YtbjencibkkhbhabGreatDoorSq1
import Derived.Test.YtbjencibkkhbhabGreatDoorCalm
import Derived.Deep.Cut
import Derived.Deep.CutRange
set_option linter.unusedSimpArgs false
set_option linter.unusedVariables false
namespace Go.Proofs.YtbjencibkkhbhabGreatDoor
open Go.RowKit Go.Shelf
/-- A slice that reads as these ranges. -/
def RA (w : World) (v : Value) (rs : List (Int × Int)) : Prop := ∃ A cap, v = .slice A rs.length cap ∧ ∀ i (hi : i < rs.length), ∃ g o, A = some ⟨g, o, none⟩ ∧ g < w.heap.size ∧ w.cell? ⟨g, o + i * 2, none⟩ = some (.int .i64 rs[i].1) ∧ w.cell? ⟨g, o + i * 2 + 1, none⟩ = some (.int .i64 rs[i].2)
theorem RA.below {w w' : World} {v : Value} {rs : List (Int × Int)} (h : RA w v rs) (hb : Below w.heap.size w w') : RA w' v rs := by
  obtain ⟨A, c, rfl, h⟩ := h
  refine ⟨A, c, rfl, fun i hi => ?_⟩
  obtain ⟨g, o, e, hg, c0, c1⟩ := h i hi
  exact ⟨g, o, e, Nat.lt_of_lt_of_le hg hb.size, (hb.cell (p := ⟨g, _, none⟩) hg).trans c0, (hb.cell (p := ⟨g, _, none⟩) hg).trans c1⟩
/-- A slice that reads as these numbers. -/
def IA (w : World) (v : Value) (ns : List Int) : Prop := ∃ A cap, v = .slice A ns.length cap ∧ ∀ i (hi : i < ns.length), ∃ g o, A = some ⟨g, o, none⟩ ∧ g < w.heap.size ∧ w.cell? ⟨g, o + i, none⟩ = some (.int .i64 ns[i])
theorem IA.below {w w' : World} {v : Value} {ns : List Int} (h : IA w v ns) (hb : Below w.heap.size w w') : IA w' v ns := by
  obtain ⟨A, c, rfl, h⟩ := h
  refine ⟨A, c, rfl, fun i hi => ?_⟩
  obtain ⟨g, o, e, hg, c0⟩ := h i hi
  exact ⟨g, o, e, Nat.lt_of_lt_of_le hg hb.size, (hb.cell (p := ⟨g, _, none⟩) hg).trans c0⟩
end Go.Proofs.YtbjencibkkhbhabGreatDoor
