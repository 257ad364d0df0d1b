/- A second later, and a day later, in plain numbers. -/
import Derived.Test.YtjddeaeanomdhabDoorCal
namespace Go.Proofs.YtjddeaeanomdhabDoor
namespace Cal
/-- A day later is the next day of the month, or the first of a month behind a last one. -/
theorem next_day (d : Int) (h0 : 0 ≤ d) (h1 : d + 1 ≤ 47481) :
    (cd (d + 1) = cd d + 1 ∧ cm (d + 1) = cm d ∧ cy (d + 1) = cy d) ∨ (cd (d + 1) = 1 ∧ cd d = dim (cy d) (cm d)) := by
  obtain ⟨y1, y2, m1, m2, k1, k2, e⟩ := date_spec d h0 (by omega)
  by_cases h : cd d < dim (cy d) (cm d)
  · have e2 : d + 1 = dby (cy d) + cum (cy d) (cm d) + (cd d + 1) - 1 := by omega
    obtain ⟨_, _, p, q, r⟩ := date_back (cy d) (cm d) (cd d + 1) y1 y2 m1 m2 (by omega) (by omega)
    rw [← e2] at p q r
    exact Or.inl ⟨r, q, p⟩
  · refine Or.inr ⟨?_, by omega⟩
    have cs := cum_succ (cy d) (cm d) m1 m2
    have ys := dby_succ (cy d)
    by_cases hm : cm d = 12
    · have h13 : cum (cy d) (12 + 1) = 365 + lp (cy d) := by simp [cum]
      rw [hm] at cs
      have e2 : d + 1 = dby (cy d + 1) + cum (cy d + 1) 1 + 1 - 1 := by
        have c1 : cum (cy d + 1) 1 = 0 := by simp [cum]
        rw [hm] at e h k2
        omega
      have hy : cy d + 1 ≤ 2099 := by
        rcases Int.lt_or_le (cy d) 2099 with h' | h'
        · omega
        · have e99 : cy d = 2099 := by omega
          have c1 : cum (cy d + 1) 1 = 0 := by simp [cum]
          have := dby_last
          rw [e99] at e2 c1
          rw [show (2099 : Int) + 1 = 2100 from rfl] at e2 c1
          omega
      have dp := dim_pos (cy d + 1) 1 (by omega) (by omega)
      obtain ⟨_, _, _, _, r⟩ := date_back (cy d + 1) 1 1 (by omega) hy (by omega) (by omega) (by omega) (by omega)
      rw [← e2] at r
      exact r
    · have e2 : d + 1 = dby (cy d) + cum (cy d) (cm d + 1) + 1 - 1 := by omega
      have dp := dim_pos (cy d) (cm d + 1) (by omega) (by omega)
      obtain ⟨_, _, _, _, r⟩ := date_back (cy d) (cm d + 1) 1 y1 y2 (by omega) (by omega) (by omega) (by omega)
      rw [← e2] at r
      exact r
end Cal
end Go.Proofs.YtjddeaeanomdhabDoor
