/- The document's Type of layer 10. -/
import Derived.Test.YtkppeejbmalefaaGreatDoorU15
import Derived.Test.YtkppeejbmalefaaGreatDoorU27
namespace Go.Proofs.YtkppeejbmalefaaGreatDoor
open Go.RowKit Go.Shelf
theorem wordsF_bd : ∀ (n : Nat) (r : List UInt8) (ws : List Wd), wordsF n r = some ws → ws.length ≤ r.length ∧ ∀ x ∈ ws, x.text.length ≤ r.length
  | 0, _, _, h => by cases h
  | _ + 1, [], ws, h => by
    cases h
    simp
  | n + 1, c :: r, ws, h => by
    rw [wordsF] at h
    split at h
    · have := wordsF_bd n r ws h
      exact ⟨by simp; omega, fun x hx => by have := this.2 x hx; simp; omega⟩
    · split at h
      · next ht =>
        obtain ⟨y, h1, h2⟩ := Option.map_eq_some_iff.1 h
        cases h2
        have ih := wordsF_bd n _ y h1
        have hd := dropTok_len (r := r) ht
        have ha := congrArg List.length (List.takeWhile_append_dropWhile (p := tokB) (l := c :: r))
        rw [List.length_append] at ha
        refine ⟨by simp; omega, fun x hx => ?_⟩
        rcases List.mem_cons.1 hx with rfl | hx
        · dsimp only
          omega
        · have := ih.2 x hx
          simp
          omega
      · split at h
        · obtain ⟨q, h1, h3⟩ := Option.bind_eq_some_iff.1 h
          obtain ⟨y, h2, h4⟩ := Option.map_eq_some_iff.1 h3
          cases h4
          have hq := quoS_len (m := q.1) (x := q.2) h1
          have ih := wordsF_bd n _ y h2
          refine ⟨by simp; omega, fun x hx => ?_⟩
          rcases List.mem_cons.1 hx with rfl | hx
          · simp
            omega
          · have := ih.2 x hx
            simp
            omega
        · obtain ⟨y, h1, h2⟩ := Option.map_eq_some_iff.1 h
          cases h2
          have ih := wordsF_bd n r y h1
          refine ⟨by simp; omega, fun x hx => ?_⟩
          rcases List.mem_cons.1 hx with rfl | hx
          · simp
          · have := ih.2 x hx
            simp
            omega
theorem wds_bd {l : List UInt8} {ws : List Wd} (h : wds l = some ws) : ws.length ≤ l.length ∧ ∀ x ∈ ws, x.text.length ≤ l.length := wordsF_bd _ _ _ h
/-- What the document's Type answers. -/
def RTOut (s : List UInt8) (w : World) (e : Ending) (w' : World) : Prop := Below w.heap.size w w' ∧ match typeO s with
  | some (t, u, ps) => ∃ v, e = .returned (.tuple #[.string ⟨t.toArray⟩, .string ⟨u.toArray⟩, v, .bool true]) ∧ RowOf Pm.cs 2 w.heap.size w' v ps
  | none => e = .returned (.tuple #[.string ⟨#[]⟩, .string ⟨#[]⟩, .slice none 0 0, .bool false])
theorem rtNo {s : List UInt8} {w w' : World} (h : typeO s = none) (hb : Below w.heap.size w w') : RTOut s w (.returned (.tuple #[.string ⟨#[]⟩, .string ⟨#[]⟩, .slice none 0 0, .bool false])) w' := by
  unfold RTOut
  rw [h]
  exact ⟨hb, rfl⟩
theorem rtYes {s t u : List UInt8} {ps : List Pm} {v : Value} {w w' : World} (h : typeO s = some (t, u, ps)) (hb : Below w.heap.size w w') (hr : RowOf Pm.cs 2 w.heap.size w' v ps) : RTOut s w (.returned (.tuple #[.string ⟨t.toArray⟩, .string ⟨u.toArray⟩, v, .bool true])) w' := by
  unfold RTOut
  rw [h]
  exact ⟨hb, v, rfl, hr⟩
/-- A word in a row. -/
theorem wd_at {B : Nat} {w : World} {v : Value} {ws : List Wd} (h : RowOf Wd.cs 2 B w v ws) (i : Nat) (x : Wd) (hx : ws[i]? = some x) : ∃ g o cap, v = .slice (some ⟨g, o, none⟩) ws.length cap ∧ B ≤ g ∧ g < w.heap.size ∧ w.cell? ⟨g, o + i * 2, none⟩ = some (.int .i64 (x.kind : Nat)) ∧ w.cell? ⟨g, o + i * 2 + 1, none⟩ = some (.string ⟨x.text.toArray⟩) := by
  obtain ⟨hi, rfl⟩ := List.getElem?_eq_some_iff.1 hx
  obtain ⟨g, o, cap, e, _, _, h1, h2, h3⟩ := h.read wd_len i hi
  exact ⟨g, o, cap, e, h1, h2, h3 0 (by omega), h3 1 (by omega)⟩
end Go.Proofs.YtkppeejbmalefaaGreatDoor
