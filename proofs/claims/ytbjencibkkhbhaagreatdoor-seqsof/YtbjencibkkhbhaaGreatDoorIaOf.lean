/- A slice of numbers that came in reads as numbers. -/
import Derived.Test.YtbjencibkkhbhaaGreatDoorArgs
import Derived.Test.YtbjencibkkhbhaaGreatDoorSq2
namespace Go.Proofs.YtbjencibkkhbhaaGreatDoor
open Go.RowKit
theorem ia_of {w : World} {v : Value} {zs : List Int} (h : AR w v (zs.map (Value.int .i64))) : IA w v zs := by
  obtain ⟨A, cap, e, h1, h2, h3, h4⟩ := h
  rw [List.length_map] at e
  refine ⟨A, cap, e, fun i hi => ?_⟩
  obtain ⟨g, o, e1, hg, hc⟩ := h4 (fun e0 => by
    have := congrArg List.length e0
    rw [List.length_map, List.length_nil] at this
    omega)
  exact ⟨g, o, e1, hg, hc i _ (by simp [List.getElem?_eq_getElem hi])⟩
end Go.Proofs.YtbjencibkkhbhaaGreatDoor
