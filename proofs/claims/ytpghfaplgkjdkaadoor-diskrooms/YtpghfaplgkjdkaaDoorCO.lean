/- A row made by make, as a row of one's own; where a row lies that isn't empty. -/
import Derived.Test.YtpghfaplgkjdkaaDoorCB
namespace Go.Proofs.YtpghfaplgkjdkaaDoor
open Go.RowKit
theorem Rw.of_owns {w : World} {base : Nat} {e : TypeId} {v : Value} {n : Nat} {xs : List Value} (h : w.ownsRow base e 1 v n xs) : Rw w 1 v n xs v.ownBlock := by
  refine ⟨by rw [h.1], ?_⟩
  rcases h.2 with ⟨rfl, hn⟩ | ⟨g, cap, cur, rfl, _, hg, h1, h2, h3, h4⟩
  · exact .inl ⟨rfl, hn, rfl⟩
  · have hk : Blk w g cur e := hg
    refine .inr ⟨g, 0, cap, rfl, rfl, h1, h2, hk.lt, fun j u hu => ?_, fun j hj => ⟨?_, hk.frozen _⟩⟩
    · have hj := (List.getElem?_eq_some_iff.1 hu).1
      rw [← h4] at hu
      simp only [Nat.mul_one] at hu
      rw [hk.cell, Nat.zero_add]
      have hjn : j < n := by rw [h.1] at hj; omega
      rw [List.getElem?_take_of_lt hjn] at hu
      simpa using hu
    · rw [hk.cell, Nat.zero_add, Array.getElem?_eq_getElem (by omega)]
      rfl
theorem Rw.blk {w : World} {v : Value} {n : Nat} {cs : List Value} {G : Option Nat} (h : Rw w 1 v n cs G) (h0 : 0 < n) : ∃ g o c, G = some g ∧ v = .slice (some ⟨g, o, none⟩) n c ∧ n ≤ c ∧ g < w.heap.size ∧ (∀ j u, cs[j]? = some u → w.cell? ⟨g, o + j, none⟩ = some u) ∧ ∀ j, j < n → w.frozen? ⟨g, o + j, none⟩ = false := by
  rcases h.2 with ⟨_, h, _⟩ | ⟨g, o, c, k1, k2, h1, h2, h3, h4, h5⟩
  · omega
  · exact ⟨g, o, c, k1, k2, h1, h3, h4, fun j hj => (h5 j (by omega)).2⟩
end Go.Proofs.YtpghfaplgkjdkaaDoor
