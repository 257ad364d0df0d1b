/- The document's Match. -/
import Derived.Test.YtelpjiiladbigaaDoorU26
import Derived.Test.YtelpjiiladbigaaDoorU28
set_option linter.unusedSimpArgs false
set_option linter.unusedVariables false
namespace Go.Proofs.YtelpjiiladbigaaDoor
open Go.RowKit Go.Shelf Go.Sort
/-- What a slice is behind 's[k:]'. -/
def frmV (g o n cap k : Nat) : Value := .slice (some (if cap = k then ⟨g, o, none⟩ else ⟨g, o + k, none⟩)) (n - k) (cap - k)
theorem Rw.frm {w : World} {n k g o cap : Nat} {cs : List Value} (h : Rw w 1 (.slice (some ⟨g, o, none⟩) n cap) n cs (some g)) (hk : k ≤ n) : Rw w 1 (frmV g o n cap k) (n - k) (cs.drop k) (some g) := by
  have hl := h.1
  rcases h.2 with ⟨h, _⟩ | ⟨g', o', cap', hg, hv, h1, h2, h3, h4, h5⟩
  · cases h
  · cases hg
    cases hv
    refine ⟨by rw [List.length_drop]; omega, .inr ⟨g, if cap = k then o else o + k, cap - k, rfl, ?_, by omega, by omega, h3, fun j u hu => ?_, fun j hj => ?_⟩⟩
    · unfold frmV
      split <;> rfl
    · rw [List.getElem?_drop] at hu
      have := (List.getElem?_eq_some_iff.1 hu).1
      rw [if_neg (by omega), Nat.add_assoc]
      exact h4 _ u hu
    · rw [if_neg (by omega), Nat.add_assoc]
      exact h5 _ (by omega)
theorem Rw.upto {w : World} {n k g o cap : Nat} {cs : List Value} (h : Rw w 1 (.slice (some ⟨g, o, none⟩) n cap) n cs (some g)) (hk : k ≤ n) : Rw w 1 (.slice (some ⟨g, o, none⟩) k cap) k (cs.take k) (some g) := by
  have hl := h.1
  rcases h.2 with ⟨h, _⟩ | ⟨g', o', cap', hg, hv, h1, h2, h3, h4, h5⟩
  · cases h
  · cases hg
    cases hv
    refine ⟨by rw [List.length_take]; omega, .inr ⟨g, o, cap, rfl, rfl, by omega, by omega, h3, fun j u hu => ?_, h5⟩⟩
    have h6 := (List.getElem?_eq_some_iff.1 hu).1
    rw [List.length_take] at h6
    rw [List.getElem?_take_of_lt (by omega)] at hu
    exact h4 _ u hu
theorem Rw.src1 {w : World} {n : Nat} {v : Value} {cs : List Value} {G : Option Nat} (h : Rw w 1 v n cs G) (hn : G ≠ none) (h1 : ∀ u ∈ cs, u.oneCell' = true) : Src Tryd.prog 1 33 v n cs w := by
  rcases h.2 with ⟨_, _, h⟩ | ⟨g', o', cap', hg, rfl, q1, q2, q3, q4, q5⟩
  · exact absurd h hn
  · refine Src.ofSlice _ Tryd.underlying33 ⟨g', o', none⟩ _ _ cs (by rw [h.1]) (fun j u hu => ?_) h1
    rw [Go.WideShapes.add_plain]
    exact q4 j u hu
set_option maxRecDepth 20000 in
theorem slice_upto (g o n cap k : Nat) (hk : k ≤ cap) (w : World) : (Instr.slice 33 (.slice (some ⟨g, o, none⟩) n cap) none (some (.int .i64 (k : Int))) none).run Tryd.prog w = .ok (.slice (some ⟨g, o, none⟩) k cap) w := by
  rw [run_slice_h w 33 _ _ _ Tryd.underlying33 .i64 (k : Int) (by omega) (by omega)]
  have hz : (sizeOf (Tryd.prog.elem 33)).run Tryd.prog w = .ok 1 w := by simp [go_sem]
  rw [hz]
  simp only [Result.andThen, sliced]
  split
  · simp
  · simp [Go.WideShapes.add_plain]
set_option maxRecDepth 20000 in
theorem slice_frm (g o n cap k : Nat) (hk : k ≤ n) (w : World) : (Instr.slice 33 (.slice (some ⟨g, o, none⟩) n cap) (some (.int .i64 (k : Int))) none none).run Tryd.prog w = .ok (frmV g o n cap k) w := by
  rw [run_slice_l w 33 _ _ _ Tryd.underlying33 .i64 (k : Int) (by omega) (by omega)]
  have hz : (sizeOf (Tryd.prog.elem 33)).run Tryd.prog w = .ok 1 w := by simp [go_sem]
  rw [hz]
  simp only [Result.andThen, sliced, frmV]
  by_cases hc : cap = k
  · rw [if_pos (by simpa using hc), if_pos hc]; simp
  · rw [if_neg (by simpa using hc), if_neg hc]; simp [Go.WideShapes.add_plain]
/-- A row of texts under way, not nil. -/
def Tn (w wr : World) (v : Value) (xs : Nms) : Prop := Below w.heap.size w wr ∧ ∃ g, w.heap.size ≤ g ∧ Rw wr 1 v xs.length (xs.map sv) (some g)
theorem Tn.below {w wr wq : World} {v : Value} {xs : Nms} (h : Tn w wr v xs) (hb : Below wr.heap.size wr wq) : Tn w wq v xs := by
  obtain ⟨h1, g, hg, hr⟩ := h
  exact ⟨h1.trans (hb.mono h1.size), g, hg, hr.keep (S := fun _ => False) (Mvs.of_below hb) (fun _ _ c => c)⟩
theorem Tn.texts {w wr : World} {v : Value} {xs : Nms} (h : Tn w wr v xs) : Texts w wr v xs := by
  obtain ⟨h1, g, hg, hr⟩ := h
  exact ⟨h1, some g, hr, fun g' e => by cases e; exact hg⟩
theorem Tn.form {w wr : World} {v : Value} {xs : Nms} (h : Tn w wr v xs) : ∃ g o cap, v = .slice (some ⟨g, o, none⟩) xs.length cap ∧ w.heap.size ≤ g ∧ g < wr.heap.size ∧ xs.length ≤ cap ∧ Rw wr 1 (.slice (some ⟨g, o, none⟩) xs.length cap) xs.length (xs.map sv) (some g) ∧ ∀ i (hi : i < xs.length), wr.cell? ⟨g, o + i, none⟩ = some (.string ⟨xs[i].toArray⟩) := by
  obtain ⟨h1, g, hg, hr⟩ := h
  have hr2 := hr
  rcases hr.2 with ⟨_, _, h⟩ | ⟨g', o', cap', e, rfl, q1, q2, q3, q4, q5⟩
  · cases h
  · cases e
    refine ⟨g, o', cap', rfl, hg, q3, q1, hr2, fun i hi => q4 i _ ?_⟩
    rw [List.getElem?_map, List.getElem?_eq_getElem hi]
    rfl
end Go.Proofs.YtelpjiiladbigaaDoor
