/- Where a kid ends, as the document's words find it; texts that a delimiter's line may have. -/
import Derived.Test.YtfebohfmpikoeabGreatDoorMiMath2
namespace Go.Proofs.YtfebohfmpikoeabGreatDoor
open Go.RowKit
/-- The end of the line ahead of a, without its own end. -/
def backE (m : List UInt8) (a : Nat) : Nat := if m[a - 1]? = some 10 ∧ 0 < a then (if m[a - 2]? = some 13 ∧ 0 < a - 1 then a - 2 else a - 1) else a
theorem seg_snoc {m : List UInt8} {k a : Nat} {c : UInt8} (hk : k < a) (hc : m[a - 1]? = some c) : seg m k a = seg m k (a - 1) ++ [c] := by
  unfold seg
  have e : a - k = (a - 1 - k) + 1 := by omega
  rw [e, List.take_add_one, List.getElem?_drop, show k + (a - 1 - k) = a - 1 by omega, hc]
  rfl
theorem seg_self (m : List UInt8) (a : Nat) : seg m a a = [] := by
  unfold seg
  simp
theorem crq_snoc (s : List UInt8) (c : UInt8) : cr (s ++ [c]) = if c = 13 then s else s ++ [c] := by
  unfold cr
  simp
theorem kidE_back {m : List UInt8} {a k : Nat} (hk : k ≤ a) (ha : a ≤ m.length) (h10 : k < a → m[a - 1]? = some 10) : (kidE m a k).2 = max k (backE m a) := by
  unfold kidE
  dsimp only
  by_cases hlt : k < a
  · have h1 := h10 hlt
    rw [seg_snoc hlt h1, txt_term]
    unfold backE
    rw [if_pos ⟨h1, by omega⟩]
    by_cases hk1 : k < a - 1
    · have hl : a - 1 - 1 < m.length := by omega
      have hc : m[a - 1 - 1]? = some m[a - 1 - 1] := List.getElem?_eq_getElem hl
      rw [seg_snoc hk1 hc, crq_snoc, show a - 2 = a - 1 - 1 by omega, hc]
      have hs : (seg m k (a - 1 - 1)).length = a - 1 - 1 - k := seg_len m k _ (by omega)
      by_cases h13 : m[a - 1 - 1] = 13
      · rw [if_pos h13, if_pos ⟨by rw [h13], by omega⟩, hs]
        omega
      · rw [if_neg h13, if_neg (fun h => h13 (Option.some.inj h.1)), List.length_append, hs]
        simp
        omega
    · have e : a - 1 = k := by omega
      rw [e, seg_self]
      have : (cr []).length = 0 := rfl
      rw [this]
      split <;> omega
  · have e : k = a := by omega
    subst e
    rw [seg_self]
    have : (txt []).length = 0 := rfl
    rw [this]
    unfold backE
    split
    · split <;> omega
    · omega
theorem back_len (t : List UInt8) (c : UInt8) (h : isBl c = true) : Lib.trimRightS (t ++ [c]) [32, 9] = Lib.trimRightS t [32, 9] := by
  unfold Lib.trimRightS
  rw [List.reverse_append]
  have hc : ([32, 9] : List UInt8).contains c = true := by
    unfold isBl at h
    simp at h
    rcases h with rfl | rfl <;> rfl
  show (List.dropWhile _ (c :: t.reverse)).reverse = _
  rw [List.dropWhile_cons_of_pos (by exact hc)]
theorem back_stop (t : List UInt8) (c : UInt8) (h : isBl c = false) : Lib.trimRightS (t ++ [c]) [32, 9] = t ++ [c] := by
  unfold Lib.trimRightS
  rw [List.reverse_append]
  have hc : ([32, 9] : List UInt8).contains c = false := by
    unfold isBl at h
    simp at h
    simp [h]
  show (List.dropWhile _ (c :: t.reverse)).reverse = _
  rw [List.dropWhile_cons_of_neg (by rw [hc]; simp)]
  simp
end Go.Proofs.YtfebohfmpikoeabGreatDoor
