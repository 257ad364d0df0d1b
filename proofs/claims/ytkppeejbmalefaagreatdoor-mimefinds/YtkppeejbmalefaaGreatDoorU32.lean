/- The program's clone: a part in a row written over. -/
import Derived.Test.YtkppeejbmalefaaGreatDoorU29
import Derived.Test.YtkppeejbmalefaaGreatDoorU31
set_option linter.unusedSimpArgs false
set_option linter.unusedVariables false
namespace Go.Proofs.YtkppeejbmalefaaGreatDoor
open Go.RowKit Go.Shelf
theorem list11 {x : List Value} (h : x.length = 11) : ∃ x0 x1 x2 x3 x4 x5 x6 x7 x8 x9 x10, x = [x0, x1, x2, x3, x4, x5, x6, x7, x8, x9, x10] := by
  match x, h with
  | [x0, x1, x2, x3, x4, x5, x6, x7, x8, x9, x10], _ => exact ⟨x0, x1, x2, x3, x4, x5, x6, x7, x8, x9, x10, rfl⟩
theorem set11 (P Q : List Value) (x0 x1 x2 x3 x4 x5 x6 x7 x8 x9 x10 a0 a1 a2 a3 a4 a5 a6 a7 a8 a9 a10 : Value) :
    (((((((((((P ++ ([x0, x1, x2, x3, x4, x5, x6, x7, x8, x9, x10] ++ Q)).set P.length a0).set (P.length + 1) a1).set (P.length + 2) a2).set (P.length + 3) a3).set (P.length + 4) a4).set (P.length + 5) a5).set (P.length + 6) a6).set (P.length + 7) a7).set (P.length + 8) a8).set (P.length + 9) a9).set (P.length + 10) a10 = P ++ ([a0, a1, a2, a3, a4, a5, a6, a7, a8, a9, a10] ++ Q) := by
  have h : ∀ (X : List Value) (j : Nat) (a : Value), (P ++ X).set (P.length + j) a = P ++ X.set j a := fun X j a => by
    rw [List.set_append_right _ _ (by omega), show P.length + j - P.length = j by omega]
  have h0 : ∀ (X : List Value) (a : Value), (P ++ X).set P.length a = P ++ X.set 0 a := fun X a => h X 0 a
  rw [h0, h, h, h, h, h, h, h, h, h, h]
  rfl
/-- A part of a row written over, whole. -/
theorem put11 {w : World} {n : Nat} {vss : List (Array Value)} {g o c i : Nat} (h : Rw w 11 (.slice (some ⟨g, o, none⟩) n c) n (vss.flatMap Array.toList) (some g)) (hv : ∀ x ∈ vss, x.size = 11) (hi : i < vss.length) (a0 a1 a2 a3 a4 a5 a6 a7 a8 a9 a10 : Value) :
    Rw (((((((((((w.setCell ⟨g, o + i * 11, none⟩ a0).setCell ⟨g, o + i * 11 + 1, none⟩ a1).setCell ⟨g, o + i * 11 + 2, none⟩ a2).setCell ⟨g, o + i * 11 + 3, none⟩ a3).setCell ⟨g, o + i * 11 + 4, none⟩ a4).setCell ⟨g, o + i * 11 + 5, none⟩ a5).setCell ⟨g, o + i * 11 + 6, none⟩ a6).setCell ⟨g, o + i * 11 + 7, none⟩ a7).setCell ⟨g, o + i * 11 + 8, none⟩ a8).setCell ⟨g, o + i * 11 + 9, none⟩ a9).setCell ⟨g, o + i * 11 + 10, none⟩ a10) 11 (.slice (some ⟨g, o, none⟩) n c) n ((vss.set i #[a0, a1, a2, a3, a4, a5, a6, a7, a8, a9, a10]).flatMap Array.toList) (some g) := by
  have hl := flat11_len vss hv
  have hk : ∀ j, j < 11 → i * 11 + j < (vss.flatMap Array.toList).length := fun j hj => by rw [hl]; omega
  have q := ((((((((((h.putS (i * 11) (hk 0 (by omega)) a0).putS (i * 11 + 1) (by rw [List.length_set]; exact hk 1 (by omega)) a1).putS (i * 11 + 2) (by simp only [List.length_set]; exact hk 2 (by omega)) a2).putS (i * 11 + 3) (by simp only [List.length_set]; exact hk 3 (by omega)) a3).putS (i * 11 + 4) (by simp only [List.length_set]; exact hk 4 (by omega)) a4).putS (i * 11 + 5) (by simp only [List.length_set]; exact hk 5 (by omega)) a5).putS (i * 11 + 6) (by simp only [List.length_set]; exact hk 6 (by omega)) a6).putS (i * 11 + 7) (by simp only [List.length_set]; exact hk 7 (by omega)) a7).putS (i * 11 + 8) (by simp only [List.length_set]; exact hk 8 (by omega)) a8).putS (i * 11 + 9) (by simp only [List.length_set]; exact hk 9 (by omega)) a9).putS (i * 11 + 10) (by simp only [List.length_set]; exact hk 10 (by omega)) a10
  have e : vss.flatMap Array.toList = (vss.take i).flatMap Array.toList ++ (vss[i].toList ++ (vss.drop (i + 1)).flatMap Array.toList) := by
    conv => lhs; rw [← List.take_append_drop i vss, List.drop_eq_getElem_cons hi, List.flatMap_append, List.flatMap_cons]
  have hpl : ((vss.take i).flatMap Array.toList).length = i * 11 := by
    rw [flat11_len _ (fun x hx => hv x (List.mem_of_mem_take hx)), List.length_take]
    congr 1
    omega
  obtain ⟨x0, x1, x2, x3, x4, x5, x6, x7, x8, x9, x10, hx⟩ := list11 (x := vss[i].toList) (by rw [Array.length_toList]; exact hv _ (List.getElem_mem hi))
  rw [hx] at e
  have hs := set11 ((vss.take i).flatMap Array.toList) ((vss.drop (i + 1)).flatMap Array.toList) x0 x1 x2 x3 x4 x5 x6 x7 x8 x9 x10 a0 a1 a2 a3 a4 a5 a6 a7 a8 a9 a10
  rw [← e, hpl] at hs
  rw [hs] at q
  have e2 : (vss.set i #[a0, a1, a2, a3, a4, a5, a6, a7, a8, a9, a10]).flatMap Array.toList = (vss.take i).flatMap Array.toList ++ ([a0, a1, a2, a3, a4, a5, a6, a7, a8, a9, a10] ++ (vss.drop (i + 1)).flatMap Array.toList) := by
    rw [List.set_eq_take_append_cons_drop, if_pos hi, List.flatMap_append, List.flatMap_cons]
  rw [e2]
  simpa only [Nat.add_assoc] using q
theorem mvs_put11 (w : World) (g o i : Nat) (a0 a1 a2 a3 a4 a5 a6 a7 a8 a9 a10 : Value) : Mvs (fun k => some k = some g) w (((((((((((w.setCell ⟨g, o + i * 11, none⟩ a0).setCell ⟨g, o + i * 11 + 1, none⟩ a1).setCell ⟨g, o + i * 11 + 2, none⟩ a2).setCell ⟨g, o + i * 11 + 3, none⟩ a3).setCell ⟨g, o + i * 11 + 4, none⟩ a4).setCell ⟨g, o + i * 11 + 5, none⟩ a5).setCell ⟨g, o + i * 11 + 6, none⟩ a6).setCell ⟨g, o + i * 11 + 7, none⟩ a7).setCell ⟨g, o + i * 11 + 8, none⟩ a8).setCell ⟨g, o + i * 11 + 9, none⟩ a9).setCell ⟨g, o + i * 11 + 10, none⟩ a10) := by
  iterate 11 (refine Mvs.setCell ?_ _ _ (fun _ => rfl))
  exact Mvs.refl _ _
/-- One kid more is cloned. -/
theorem clone_next {n B g5 k : Nat} {wr w7 W8 W6 : World} {ks : List Part} {us vss : List (Array Value)} {x : Array Value} (hku : k < us.length) (hx : x.size = 11) (hB : B ≤ wr.heap.size) (hg : g5 < wr.heap.size)
    (h11 : ∀ x ∈ us, x.size = 11) (hup : ∀ i (hi : i < ks.length) (hj : i < us.length), i < k → PA n (fun g => B ≤ g ∧ some g ≠ some g5) wr (.agg us[i]) ks[i]) (huv : ∀ i, k ≤ i → us[i]? = vss[i]?) (hm : Mvs (fun g => some g = some g5) W6 wr) (hm7 : Mvs (fun _ => False) wr w7) (hm8 : Mvs (fun g => some g = some g5) w7 W8)
    (hp : ∀ hk : k < ks.length, PA n (fun g => wr.heap.size ≤ g) w7 (.agg x) ks[k]) :
    (us.set k x).length = us.length ∧ (∀ y ∈ us.set k x, y.size = 11) ∧ (∀ i (hi : i < ks.length) (hj : i < (us.set k x).length), i < k + 1 → PA n (fun g => B ≤ g ∧ some g ≠ some g5) W8 (.agg (us.set k x)[i]) ks[i]) ∧ (∀ i, k + 1 ≤ i → (us.set k x)[i]? = vss[i]?) ∧ Mvs (fun g => some g = some g5) W6 W8 := by
  refine ⟨List.length_set, fun y hy => ?_, fun i hi hj hik => ?_, fun i hi => ?_, ?_⟩
  · rcases List.mem_or_eq_of_mem_set hy with h | rfl
    · exact h11 y h
    · exact hx
  · by_cases e : i = k
    · subst e
      rw [List.getElem_set_self]
      have h1 := (hp hi).mono (S' := fun g => B ≤ g ∧ some g ≠ some g5) (fun g _ hg' => ⟨by omega, fun e => by cases e; omega⟩)
      exact h1.keep hm8 (fun g hS e => hS.2 e)
    · rw [List.getElem_set_ne (fun h => e h.symm)]
      rw [List.length_set] at hj
      exact ((hup i hi hj (by omega)).keep hm7 (fun _ _ c => c)).keep hm8 (fun g hS e => hS.2 e)
  · rw [List.getElem?_set_ne (by omega)]
    exact huv i (by omega)
  · exact hm.trans ((hm7.mono (fun _ _ h => h.elim)).trans hm8)
end Go.Proofs.YtkppeejbmalefaaGreatDoor
