/- A slice of texts that came in, as the walks of layer 9 read it. -/
import Derived.Test.YtnokanmcgpjkmaaGreatDoorHg1
import Derived.Test.YtnokanmcgpjkmaaGreatDoorStrsArg
namespace Go.Proofs.YtnokanmcgpjkmaaGreatDoor
open Go.RowKit
theorem ar_tx {w : World} {v : Value} {xs : List (List UInt8)} (h : AR w v (xs.map tv)) : TX w v xs := by
  obtain ⟨A, cap, rfl, _, _, _, h5⟩ := h
  rw [List.length_map]
  refine ⟨A, cap, rfl, fun i hi => ?_⟩
  obtain ⟨g, o, e, hg, hc⟩ := h5 (by intro h0; have := congrArg List.length h0; simp at this; subst this; simp at hi)
  exact ⟨g, o, e, hg, hc i _ (by rw [List.getElem?_map, List.getElem?_eq_getElem hi]; rfl)⟩
end Go.Proofs.YtnokanmcgpjkmaaGreatDoor
