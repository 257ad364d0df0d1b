/- The document's own reading: what like, value and place answer. -/
import Derived.Test.YtabncmepkoiheaaDoorRp2
namespace Go.Proofs.YtabncmepkoiheaaDoor
open Go.RowKit
/-- Does s look like the pattern? -/
def likeB : List UInt8 → List UInt8 → Bool
  | [], [] => true
  | c :: s, q :: p => (if q.toNat = 48 then isDig c else decide (c.toNat = q.toNat)) && likeB s p
  | _, _ => false
theorem likeB_len : ∀ {s p : List UInt8}, likeB s p = true → s.length = p.length
  | [], [], _ => rfl
  | c :: s, q :: p, h => by
    unfold likeB at h
    simp only [Bool.and_eq_true] at h
    have := likeB_len h.2
    simp [this]
  | [], _ :: _, h => by cases h
  | _ :: _, [], h => by cases h
/-- Digits' number. -/
def valL : List UInt8 → Nat → Nat
  | [], n => n
  | c :: r, n => valL r (10 * n + (c.toNat - 48))
theorem valL_snoc (p : List UInt8) (c : UInt8) (n : Nat) : valL (p ++ [c]) n = 10 * valL p n + (c.toNat - 48) := by
  induction p generalizing n with
  | nil => rfl
  | cons d p ih => exact ih _
theorem valL_lt : ∀ (s : List UInt8) (n : Nat), (∀ c ∈ s, isDig c = true) → valL s n < (n + 1) * 10 ^ s.length
  | [], n, _ => by simp [valL]
  | c :: r, n, h => by
    have h1 := h c (by simp)
    unfold isDig at h1
    simp at h1
    have ih := valL_lt r (10 * n + (c.toNat - 48)) (fun d hd => h d (by simp [hd]))
    have h3 : (10 * n + (c.toNat - 48) + 1) * 10 ^ r.length ≤ ((n + 1) * 10) * 10 ^ r.length := Nat.mul_le_mul_right _ (by omega)
    show valL r (10 * n + (c.toNat - 48)) < (n + 1) * 10 ^ (r.length + 1)
    rw [Nat.pow_succ, Nat.mul_comm (10 ^ r.length) 10, ← Nat.mul_assoc]
    omega
/-- The first of k names, from the j-th on, that s is. -/
def findEq (names s : List UInt8) : Nat → Nat → Int
  | 0, _ => -1
  | k + 1, j => if s = nameT names j then j else findEq names s k (j + 1)
end Go.Proofs.YtabncmepkoiheaaDoor
