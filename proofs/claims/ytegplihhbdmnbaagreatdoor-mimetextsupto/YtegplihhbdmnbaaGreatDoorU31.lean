/- When two parts are the same. -/
import Derived.Test.YtegplihhbdmnbaaGreatDoorU14
set_option linter.unusedSimpArgs false
set_option linter.unusedVariables false
namespace Go.Proofs.YtegplihhbdmnbaaGreatDoor
open Go.RowKit Go.Shelf
mutual
def samP : Part → Part → Bool
  | .mk h ks, .mk h' ks' => decide (h = h') && samL ks ks'
def samL : List Part → List Part → Bool
  | [], [] => true
  | a :: r, b :: s => samP a b && samL r s
  | [], _ :: _ => false
  | _ :: _, [] => false
end
mutual
theorem samP_refl : ∀ (p : Part), samP p p = true
  | .mk h ks => by rw [samP, samL_refl ks]; simp
theorem samL_refl : ∀ (ks : List Part), samL ks ks = true
  | [] => by rw [samL]
  | k :: r => by rw [samL, samP_refl k, samL_refl r]; rfl
end
theorem samL_len : ∀ (a b : List Part), a.length ≠ b.length → samL a b = false
  | [], [], h => absurd rfl h
  | [], _ :: _, _ => by rw [samL]
  | _ :: _, [], _ => by rw [samL]
  | x :: r, y :: s, h => by rw [samL, samL_len r s (fun e => h (by simp [e]))]; simp
/-- Behind i kids that are the same. -/
theorem samL_drop (a b : List Part) (i : Nat) (ha : i < a.length) (hb : i < b.length) : samL (a.drop i) (b.drop i) = (samP a[i] b[i] && samL (a.drop (i + 1)) (b.drop (i + 1))) := by
  rw [List.drop_eq_getElem_cons ha, List.drop_eq_getElem_cons hb, samL]
theorem samL_end (a b : List Part) (i : Nat) (ha : a.length ≤ i) (hb : b.length ≤ i) : samL (a.drop i) (b.drop i) = true := by
  rw [List.drop_eq_nil_of_le ha, List.drop_eq_nil_of_le hb, samL]
end Go.Proofs.YtegplihhbdmnbaaGreatDoor
