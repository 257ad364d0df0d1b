/- line and goOn of package header; Body. -/
import Derived.Test.YtbjencibkkhbhaaGreatDoorHd0
import Derived.BigQuiet
import Derived.Deep.QuietTactic
namespace Go.Proofs.YtbjencibkkhbhaaGreatDoor
open Go.RowKit Go.Shelf
/-- Where a line begins in a message, and what is behind it. -/
structure AtL (m pre : List UInt8) (ls : List (List UInt8)) : Prop where
  eq : m = pre ++ ls.flatten
  ok : LOK ls
theorem AtL.next {m pre x : List UInt8} {r : List (List UInt8)} (h : AtL m pre (x :: r)) : AtL m (pre ++ x) r := ⟨by rw [h.eq]; simp, h.ok.2⟩
theorem AtL.start (m : List UInt8) : AtL m [] (splitS m) := ⟨by rw [splitS_flat]; rfl, lok m⟩
theorem AtL.skip {m pre : List UInt8} {g r : List (List UInt8)} (h : AtL m pre (g ++ r)) : AtL m (pre ++ g.flatten) r := ⟨by rw [h.eq]; simp, h.ok.right⟩
/-- The blanks. -/
theorem blank_in (c : UInt8) (h : c = 32 ∨ c = 9) : 0 ≤ Lib.indexByte [32, 9] c := by
  rcases h with rfl | rfl <;> decide
theorem blank_out (c : UInt8) (h : ¬ (c = 32 ∨ c = 9)) : Lib.indexByte [32, 9] c = -1 := by
  refine index_out ?_
  simp only [List.mem_cons, List.not_mem_nil, or_false]
  exact h
theorem blB_cons {c : UInt8} {y : List UInt8} : blB (c :: y) = true ↔ (c = 32 ∨ c = 9) := by simp [blB]
end Go.Proofs.YtbjencibkkhbhaaGreatDoor
