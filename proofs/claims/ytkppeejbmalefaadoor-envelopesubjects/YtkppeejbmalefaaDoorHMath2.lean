/- Headers of lines that are put together. -/
import Derived.Test.YtkppeejbmalefaaDoorHMath
namespace Go.Proofs.YtkppeejbmalefaaDoor
open Go.RowKit
theorem splitS_app : ∀ (L : List (List UInt8)), (∀ x ∈ L, Term x) → ∀ s, splitS (L.flatten ++ s) = L ++ splitS s
  | [], _, _ => rfl
  | x :: L, h, s => by
    obtain ⟨p, hp, h10⟩ := h x (by simp)
    have ih := splitS_app L (fun y hy => h y (by simp [hy])) s
    rw [List.flatten_cons, hp, List.append_assoc, List.append_assoc]
    show splitS (p ++ 10 :: (L.flatten ++ s)) = _
    rw [splitS_mid p _ h10, ih]
    rfl
/-- The fields of lines none of which goes on. -/
def flds : List (List UInt8) → Nat → List Fd
  | [], _ => []
  | x :: r, at' => (fdOf x [] at').toList ++ flds r (at' + x.length)
theorem hd_lines : ∀ (L : List (List UInt8)) (E : List UInt8) (rest : List (List UInt8)) (at' : Nat), (∀ x ∈ L, txt x ≠ [] ∧ blB x = false) → txt E = [] →
    hd (L ++ E :: rest) at' = (flds L at', at' + L.flatten.length + E.length)
  | [], E, rest, at', _, hE => by
    rw [List.nil_append, hd_stop hE]
    simp [flds]
  | x :: L, E, rest, at', h, hE => by
    obtain ⟨h1, _⟩ := h x (by simp)
    have ih := hd_lines L E rest (at' + x.length) (fun y hy => h y (by simp [hy])) hE
    have hb : ∀ y ys, L ++ E :: rest = y :: ys → blB y = false := by
      intro y ys e
      cases L with
      | nil =>
        cases e
        cases hb : blB E with
        | false => rfl
        | true => exact absurd hE (blB_txt hb)
      | cons z L =>
        cases e
        exact (h y (by simp)).2
    have ht : (L ++ E :: rest).takeWhile blB = [] ∧ (L ++ E :: rest).dropWhile blB = L ++ E :: rest := by
      cases hc : L ++ E :: rest with
      | nil => exact ⟨rfl, rfl⟩
      | cons y ys =>
        have := hb y ys hc
        exact ⟨List.takeWhile_cons_of_neg (by rw [this]; simp), List.dropWhile_cons_of_neg (by rw [this]; simp)⟩
    rw [List.cons_append, hd_cons h1, ht.1, ht.2]
    simp only [List.flatten_nil, List.length_nil, Nat.add_zero]
    rw [ih]
    simp [flds, Nat.add_assoc]
theorem hd_put (L : List (List UInt8)) (E s : List UInt8) (h : ∀ x ∈ L, Term x ∧ txt x ≠ [] ∧ blB x = false) (hT : Term E) (hE : txt E = []) :
    hd (splitS (L.flatten ++ (E ++ s))) 0 = (flds L 0, L.flatten.length + E.length) := by
  have e1 : splitS (E ++ s) = E :: splitS s := by
    have := splitS_app [E] (by simpa using hT) s
    simpa using this
  rw [splitS_app L (fun x hx => (h x hx).1), e1, hd_lines L E _ 0 (fun x hx => (h x hx).2) hE]
  simp
/-- The line of HeaderCounts, and the empty one. -/
def abL : List UInt8 := [97, 58, 32, 98, 13, 10]
def crL : List UInt8 := [13, 10]
theorem ab_term : Term abL := ⟨[97, 58, 32, 98, 13], rfl, by decide⟩
theorem cr_term : Term crL := ⟨[13], rfl, by decide⟩
theorem flds_ab : ∀ (k at' : Nat), (flds (List.replicate k abL) at').length = k
  | 0, _ => rfl
  | k + 1, at' => by
    rw [List.replicate_succ, flds, List.length_append, flds_ab k]
    have : (fdOf abL [] at').toList.length = 1 := rfl
    omega
theorem flat_ab (k : Nat) : (List.replicate k abL).flatten.length = 6 * k := by
  rw [List.length_flatten, List.map_replicate, List.sum_replicate_nat]
  show k * 6 = _
  omega
theorem ab_hd (k : Nat) : (hd (splitS ((List.replicate k abL).flatten ++ crL)) 0).1.length = k ∧ (hd (splitS ((List.replicate k abL).flatten ++ crL)) 0).2 = 6 * k + 2 := by
  have := hd_put (List.replicate k abL) crL [] (fun x hx => by
    obtain rfl := List.eq_of_mem_replicate hx
    exact ⟨ab_term, by decide, by decide⟩) cr_term (by decide)
  rw [List.append_nil] at this
  rw [this]
  refine ⟨flds_ab k 0, ?_⟩
  show (List.replicate k abL).flatten.length + 2 = _
  rw [flat_ab]
end Go.Proofs.YtkppeejbmalefaaDoor
