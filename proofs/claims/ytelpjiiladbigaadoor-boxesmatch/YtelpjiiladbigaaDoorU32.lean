/- Slices of texts and of bools that came in. -/
/- A slice of texts that came in, as the walks of layer 9 read it. -/
import Derived.Test.YtelpjiiladbigaaDoorU31
import Derived.Deep.Strs
import Derived.Test.YtelpjiiladbigaaDoorU23
section
namespace Go.Proofs.YtelpjiiladbigaaDoor
open Go.RowKit
theorem list_of {α : Type} : ∀ (n : Nat) (p : Nat → α → Prop), (∀ i, i < n → ∃ x, p i x) → ∃ l : List α, l.length = n ∧ ∀ i (h : i < l.length), p i l[i]
  | 0, _, _ => ⟨[], rfl, fun i h => by simp at h⟩
  | n + 1, p, hp => by
    obtain ⟨l, hl, h⟩ := list_of n p (fun i hi => hp i (by omega))
    obtain ⟨x, hx⟩ := hp n (by omega)
    refine ⟨l ++ [x], by simp [hl], fun i hi => ?_⟩
    by_cases hlt : i < l.length
    · rw [List.getElem_append_left hlt]
      exact h i hlt
    · have hi' : i = n := by simp at hi; omega
      subst hi'
      rw [List.getElem_append_right (by omega)]
      simpa using hx
section
variable {H : Type} {enc : TypeId × Value → H} {P : Program} {W : World} {α : Type}
/-- A slice whose elements are of one cell each. -/
theorem open_ones {t e : TypeId} (f : α → Value) (Q : α → Prop) (ht : P.underlying t = some (.slice e)) (ce : P.cellsOf e = 1) (hop : ∀ fuel cs x, DataW.trod enc P W 0 (fun _ => true) true fuel e cs = some x → ∃ z, cs = [f z] ∧ Q z) {base : Nat} {v : Value} {d : DataW H} {p : List MemPlace}
    (hval : Value.okWide P W .any base t v) (h : DataW.Trod enc P W 0 (fun _ => true) true t v d p) (hlt : ∀ x ∈ p, x.block < W.heap.size) : ∃ xs : List α, AR W v (xs.map f) ∧ ∀ z ∈ xs, Q z := by
  obtain ⟨a1, len, cap, rfl⟩ := Go.WideShapes.okWide_slice ht hval
  obtain ⟨fuel, hf⟩ := h
  rcases Go.Deep.open_slice ht hf with ⟨hcs, hx⟩ | ⟨a, len', cap', m, n, D, Pl, hcs, _, hl, hm, hmm, hx, hel⟩
  · simp [Value.cells] at hcs
    obtain ⟨rfl, rfl, rfl⟩ := hcs
    exact ⟨[], ⟨none, 0, rfl, Nat.le_refl _, Nat.zero_le _, fun _ => rfl, fun h => absurd rfl h⟩, fun p hp => by cases hp⟩
  · simp [Value.cells] at hcs
    obtain ⟨rfl, rfl, rfl⟩ := hcs
    simp only [Prod.mk.injEq] at hx
    obtain ⟨rfl, rfl⟩ := hx
    simp only [if_true] at hmm
    subst hmm
    rw [ce] at hel hlt
    obtain ⟨ss, hsl, hss⟩ := list_of (α := α) len (fun i z => W.cell? (a.add (i * 1)) = some (f z) ∧ Q z) (fun i hi' => by
      obtain ⟨cs', h1, h2⟩ := hel i (by omega)
      obtain ⟨_, hlen, hcell⟩ := World.cells?_some h1
      obtain ⟨z, e2, hq⟩ := hop _ _ _ h2
      refine ⟨z, ?_, hq⟩
      have := hcell 0 (by omega)
      rw [e2] at this
      simpa [Addr.add] using this)
    subst hsl
    refine ⟨ss, ⟨some a, _, by rw [List.length_map], by rw [List.length_map]; exact hl, hm, (fun h => by simp at h), fun hne => ?_⟩, fun p hp => ?_⟩
    · have hpos : 0 < ss.length := by
        rcases Nat.eq_zero_or_pos ss.length with h0 | h0
        · rw [List.length_eq_zero_iff.1 h0] at hne
          exact (hne rfl).elim
        · exact h0
      obtain ⟨ab, ao, spot⟩ := a
      have hspot : spot = none := by simpa [Addr.add] using World.cell?_spot (hss 0 hpos).1
      subst hspot
      refine ⟨ab, ao, rfl, hlt (.cell ab ao) (List.mem_append_left _ (MemPlace.mem_row.2 ⟨0, by omega, by simp⟩)), fun j u hu => ?_⟩
      have hj : j < ss.length := by have := (List.getElem?_eq_some_iff.1 hu).1; rwa [List.length_map] at this
      rw [List.getElem?_map, List.getElem?_eq_getElem hj] at hu
      have := (hss j hj).1
      simp only [Go.WideShapes.add_plain, Nat.mul_one] at this
      rw [this, ← hu]
      rfl
    · obtain ⟨i, hi, rfl⟩ := List.mem_iff_getElem.1 hp
      exact (hss i hi).2
end
theorem strCells1 : Tryd.prog.cellsOf 9 = 1 := by kernel_rfl
theorem boolCells1 : Tryd.prog.cellsOf 4 = 1 := by kernel_rfl
/-- A text as a value. -/
def tv (l : List UInt8) : Value := .string ⟨l.toArray⟩
set_option maxRecDepth 100000 in
theorem open_strs {H : Type} {enc : TypeId × Value → H} {W : World} {base : Nat} {v : Value} {d : DataW H} {p : List MemPlace} (hval : Value.okWide Tryd.prog W .any base 33 v) (h : DataW.Trod enc Tryd.prog W 0 (fun _ => true) true 33 v d p) (hlt : ∀ x ∈ p, x.block < W.heap.size) : ∃ xs : List (List UInt8), AR W v (xs.map tv) ∧ ∀ x ∈ xs, x.length ≤ maxLen :=
  open_ones tv (fun x => x.length ≤ maxLen) Tryd.underlying33 strCells1 (fun fuel cs x hx => by
    obtain ⟨s, h1, _, h3⟩ := DataW.trod_string Tryd.underlying9 hx
    exact ⟨s.data.toList, by rw [h1]; rfl, by rw [Array.length_toList]; exact h3⟩) hval h hlt
set_option maxRecDepth 100000 in
theorem open_bools {H : Type} {enc : TypeId × Value → H} {W : World} {base : Nat} {v : Value} {d : DataW H} {p : List MemPlace} (hval : Value.okWide Tryd.prog W .any base 49 v) (h : DataW.Trod enc Tryd.prog W 0 (fun _ => true) true 49 v d p) (hlt : ∀ x ∈ p, x.block < W.heap.size) : ∃ xs : List Bool, AR W v (xs.map Value.bool) ∧ ∀ x ∈ xs, True :=
  open_ones Value.bool (fun _ => True) Tryd.underlying49 boolCells1 (fun fuel cs x hx => by
    obtain ⟨b, h1, _⟩ := DataW.trod_bool Tryd.underlying4 hx
    exact ⟨b, h1, trivial⟩) hval h hlt
end Go.Proofs.YtelpjiiladbigaaDoor

end
section
namespace Go.Proofs.YtelpjiiladbigaaDoor
open Go.RowKit
theorem ar_tx {w : World} {v : Value} {xs : List (List UInt8)} (h : AR w v (xs.map tv)) : TX w v xs := by
  obtain ⟨A, cap, rfl, _, _, _, h5⟩ := h
  rw [List.length_map]
  refine ⟨A, cap, rfl, fun i hi => ?_⟩
  obtain ⟨g, o, e, hg, hc⟩ := h5 (by intro h0; have := congrArg List.length h0; simp at this; subst this; simp at hi)
  exact ⟨g, o, e, hg, hc i _ (by rw [List.getElem?_map, List.getElem?_eq_getElem hi]; rfl)⟩
end Go.Proofs.YtelpjiiladbigaaDoor

end
