/- Rows of texts and of bools that came in, as the law of copies reads them. -/
import Derived.Test.YtdbmaobjikjifaaGreatDoorRU44
import Derived.Test.YtdbmaobjikjifaaGreatDoorRU45
set_option linter.unusedVariables false
namespace Go.Proofs.YtdbmaobjikjifaaGreatDoorR
open Go.RowKit
theorem strs_rd {w : World} {v : Value} {xs : List (List UInt8)} (h : AR w v (xs.map tv)) : RdE 1 StrAt w v xs := by
  obtain ⟨A, c, rfl, _, _, _, h4⟩ := h
  refine ⟨A, c, by rw [List.length_map], fun i hi => ?_⟩
  have hne : xs.map tv ≠ [] := fun e => by
    have := congrArg List.length e
    simp at this
    rw [this] at hi
    simp at hi
  obtain ⟨g, o, e, hg, hc⟩ := h4 hne
  refine ⟨g, o, e, hg, ?_⟩
  have := hc i (tv xs[i]) (by rw [List.getElem?_map, List.getElem?_eq_getElem hi]; rfl)
  rw [Nat.mul_one]
  exact this
theorem bools_rd {w : World} {v : Value} {xs : List Bool} (h : AR w v (xs.map Value.bool)) : RdE 1 BoAt w v xs := by
  obtain ⟨A, c, rfl, _, _, _, h4⟩ := h
  refine ⟨A, c, by rw [List.length_map], fun i hi => ?_⟩
  have hne : xs.map Value.bool ≠ [] := fun e => by
    have := congrArg List.length e
    simp at this
    rw [this] at hi
    simp at hi
  obtain ⟨g, o, e, hg, hc⟩ := h4 hne
  refine ⟨g, o, e, hg, ?_⟩
  have := hc i (.bool xs[i]) (by rw [List.getElem?_map, List.getElem?_eq_getElem hi]; rfl)
  rw [Nat.mul_one]
  exact this
end Go.Proofs.YtdbmaobjikjifaaGreatDoorR
