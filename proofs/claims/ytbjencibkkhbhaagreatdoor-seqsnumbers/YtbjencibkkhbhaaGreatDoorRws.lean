/- Rows of structs in memory, of whatever shape. -/
import Derived.Test.YtbjencibkkhbhaaGreatDoorOwn
import Derived.WideShapes
namespace Go.Proofs.YtbjencibkkhbhaaGreatDoor
open Go.RowKit
section
variable {α : Type} {f : α → List Value} {sz : Nat}
theorem flat_len (hf : ∀ x, (f x).length = sz) : ∀ (xs : List α), (xs.flatMap f).length = xs.length * sz
  | [] => by simp
  | x :: r => by
    rw [List.flatMap_cons, List.length_append, hf, flat_len hf r, List.length_cons, Nat.add_mul]
    omega
theorem flat_at (hf : ∀ x, (f x).length = sz) : ∀ (xs : List α) (i : Nat) (hi : i < xs.length) (j : Nat), j < sz → (xs.flatMap f)[i * sz + j]? = (f xs[i])[j]?
  | x :: r, 0, _, j, hj => by
    rw [List.flatMap_cons, List.getElem?_append_left (by rw [hf]; omega)]
    simp
  | x :: r, i + 1, hi, j, hj => by
    have h1 : (i + 1) * sz + j = sz + (i * sz + j) := by rw [Nat.add_mul]; omega
    rw [List.flatMap_cons, List.getElem?_append_right (by rw [hf, h1]; omega), hf, h1, show sz + (i * sz + j) - sz = i * sz + j by omega, flat_at hf r i (by simpa using hi) j hj]
    rfl
/-- A slice that reads as these, in a block from B on (or nil), which is this call's own. -/
def RowOf (f : α → List Value) (sz B : Nat) (w : World) (v : Value) (xs : List α) : Prop := ∃ G, Rw w sz v xs.length (xs.flatMap f) G ∧ ∀ g, G = some g → B ≤ g
theorem RowOf.nil (f : α → List Value) (sz B : Nat) (w : World) : RowOf f sz B w (.slice none 0 0) [] := ⟨none, Rw.nil w sz, fun _ h => by cases h⟩
section
variable {B B' : Nat} {w w' : World} {v : Value} {xs : List α} {S : Nat → Prop}
theorem RowOf.keep (h : RowOf f sz B w v xs) (hm : Mvs S w w') (hs : ∀ k, B ≤ k → ¬ S k) : RowOf f sz B w' v xs := by
  obtain ⟨G, hr, hg⟩ := h
  exact ⟨G, hr.keep hm (fun g e => hs g (hg g e)), hg⟩
theorem RowOf.below (h : RowOf f sz B w v xs) (hb : Below w.heap.size w w') : RowOf f sz B w' v xs := h.keep (S := fun _ => False) (Mvs.of_below hb) (fun _ _ c => c)
theorem RowOf.mono (h : RowOf f sz B w v xs) (hb : B' ≤ B) : RowOf f sz B' w v xs := by
  obtain ⟨G, hr, hg⟩ := h
  exact ⟨G, hr, fun g e => Nat.le_trans hb (hg g e)⟩
theorem RowOf.form (h : RowOf f sz B w v xs) : ∃ A c, v = .slice A xs.length c := by
  obtain ⟨G, hr, _⟩ := h
  exact hr.form
theorem RowOf.read (hf : ∀ x, (f x).length = sz) (h : RowOf f sz B w v xs) (i : Nat) (hi : i < xs.length) : ∃ g o cap, v = .slice (some ⟨g, o, none⟩) xs.length cap ∧ xs.length ≤ cap ∧ cap ≤ maxLen ∧ B ≤ g ∧ g < w.heap.size ∧ ∀ j, j < sz → w.cell? ⟨g, o + i * sz + j, none⟩ = (f xs[i])[j]? := by
  obtain ⟨G, hr, hg⟩ := h
  rcases hr.2 with ⟨_, h0, _⟩ | ⟨g, o, cap, e, hv, h1, h2, h3, h4, _⟩
  · omega
  · refine ⟨g, o, cap, hv, h1, h2, hg g e, h3, fun j hj => ?_⟩
    have ha := flat_at hf xs i hi j hj
    have hj' : j < (f xs[i]).length := by rw [hf]; exact hj
    rw [List.getElem?_eq_getElem hj'] at ha
    rw [Nat.add_assoc, h4 _ _ ha, List.getElem?_eq_getElem hj']
/-- Behind an append of one more. -/
theorem RowOf.grow {x : α} {wr w1 : World} {v1 : Value} {G G1 : Option Nat} (hg : ∀ g, G = some g → B ≤ g) (hr : Rw w1 sz v1 (xs.length + 1) (xs.flatMap f ++ f x) G1) (hG : G1 = G ∨ G1 = some wr.heap.size) (hB : B ≤ wr.heap.size) : RowOf f sz B w1 v1 (xs ++ [x]) := by
  refine ⟨G1, ?_, ?_⟩
  · rw [List.length_append, List.flatMap_append]
    simpa using hr
  · rintro g rfl
    rcases hG with h | h
    · exact hg g h.symm
    · cases h
      exact hB
theorem RowOf.growN {x : α} {w1 : World} {v1 : Value} {G G1 : Option Nat} {N : Nat} (hg : ∀ g, G = some g → B ≤ g) (hr : Rw w1 sz v1 (xs.length + 1) (xs.flatMap f ++ f x) G1) (hG : G1 = G ∨ G1 = some N) (hB : B ≤ N) : RowOf f sz B w1 v1 (xs ++ [x]) := by
  refine ⟨G1, ?_, ?_⟩
  · rw [List.length_append, List.flatMap_append]
    simpa using hr
  · rintro g rfl
    rcases hG with h | h
    · exact hg g h.symm
    · cases h
      exact hB
/-- A slice that reads as these, whoever's it is. -/
def ReadOf (f : α → List Value) (sz : Nat) (w : World) (v : Value) (xs : List α) : Prop := ∃ A cap, v = .slice A xs.length cap ∧ ∀ i (hi : i < xs.length), ∃ g o, A = some ⟨g, o, none⟩ ∧ g < w.heap.size ∧ ∀ j, j < sz → w.cell? ⟨g, o + i * sz + j, none⟩ = (f xs[i])[j]?
theorem RowOf.reads (hf : ∀ x, (f x).length = sz) (h : RowOf f sz B w v xs) : ReadOf f sz w v xs := by
  obtain ⟨A, c, rfl⟩ := h.form
  refine ⟨A, c, rfl, fun i hi => ?_⟩
  obtain ⟨g, o, cap, e, _, _, _, h3, h4⟩ := h.read hf i hi
  exact ⟨g, o, by cases e; rfl, h3, h4⟩
theorem ReadOf.nil (f : α → List Value) (sz : Nat) (w : World) : ReadOf f sz w (.slice none 0 0) [] := ⟨none, 0, rfl, fun i hi => by simp at hi⟩
theorem ReadOf.below (h : ReadOf f sz w v xs) (hb : Below w.heap.size w w') : ReadOf f sz w' v xs := by
  obtain ⟨A, c, rfl, h⟩ := h
  refine ⟨A, c, rfl, fun i hi => ?_⟩
  obtain ⟨g, o, e, hg, hc⟩ := h i hi
  exact ⟨g, o, e, Nat.lt_of_lt_of_le hg hb.size, fun j hj => (hb.cell (p := ⟨g, _, none⟩) hg).trans (hc j hj)⟩
theorem ReadOf.belowB (h : ReadOf f sz w v xs) (hb : Below B w w') (hlt : ∀ A n c, v = .slice (some A) n c → A.block < B) : ReadOf f sz w' v xs := by
  obtain ⟨A, c, rfl, h⟩ := h
  refine ⟨A, c, rfl, fun i hi => ?_⟩
  obtain ⟨g, o, rfl, hg, hc⟩ := h i hi
  have : g < B := hlt _ _ _ rfl
  exact ⟨g, o, rfl, Nat.lt_of_lt_of_le hg hb.size, fun j hj => (hb.cell (p := ⟨g, o + i * sz + j, none⟩) this).trans (hc j hj)⟩
end
end
end Go.Proofs.YtbjencibkkhbhaaGreatDoor
