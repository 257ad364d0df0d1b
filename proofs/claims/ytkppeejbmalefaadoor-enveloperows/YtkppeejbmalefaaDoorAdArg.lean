/- A slice of addresses that came in, opened, with the sizes of its texts. -/
import Derived.Test.YtkppeejbmalefaaDoorEn4
import Derived.Test.YtkppeejbmalefaaDoorEnMath3
import Derived.ProofKit
import Derived.OpenShut
import Derived.Deep.Strs
import Derived.Lib.SmallJoins
import Derived.SizedLaws
namespace Go.Proofs.YtkppeejbmalefaaDoor
open Go.RowKit
theorem list_ofE {α : Type} : ∀ (n : Nat) (p : Nat → α → Prop), (∀ i, i < n → ∃ x, p i x) → ∃ l : List α, l.length = n ∧ ∀ i (h : i < l.length), p i l[i]
  | 0, _, _ => ⟨[], rfl, fun i h => by simp at h⟩
  | n + 1, p, hp => by
    obtain ⟨l, hl, h⟩ := list_ofE n p (fun i hi => hp i (by omega))
    obtain ⟨x, hx⟩ := hp n (by omega)
    refine ⟨l ++ [x], by simp [hl], fun i hi => ?_⟩
    by_cases hlt : i < l.length
    · rw [List.getElem_append_left hlt]
      exact h i hlt
    · have hi' : i = n := by simp at hi; omega
      subst hi'
      rw [List.getElem_append_right (by omega)]
      simpa using hx
theorem one_cellE {cs : List Value} {i : Nat} {v : Value} (h : (cs.drop i).take 1 = [v]) : cs[i]? = some v := by
  have := congrArg (·[0]?) h
  simpa using this
section
variable {H : Type} {enc : TypeId × Value → H} {P : Program} {W : World}
theorem weightsAll_memE {e : TypeId} : ∀ {l : List (DataW H)} {d : DataW H}, d ∈ l → ∀ n ∈ d.weights P e, n ∈ DataW.weightsAll P e l
  | d' :: r, d, hd, n, hn => by
    simp only [DataW.weightsAll, List.mem_append]
    rcases List.mem_cons.1 hd with rfl | h
    · exact Or.inl hn
    · exact Or.inr (weightsAll_memE h n hn)
theorem open_addrsP {t e ts : TypeId} {f0 f1 f2 : Field} (ht : P.underlying t = some (.slice e)) (he : P.underlying e = some (.struct #[f0, f1, f2])) (hs : P.underlying ts = some .string)
    (ce : P.cellsOf e = 3) (cs : P.cellsOf ts = 1) (t0 : f0.type = ts) (o0 : f0.offset = 0) (t1 : f1.type = ts) (o1 : f1.offset = 1) (t2 : f2.type = ts) (o2 : f2.offset = 2) {base : Nat} {v : Value} {d : DataW H} {p : List MemPlace}
    (hval : Value.okWide P W .any base t v) (h : DataW.Trod enc P W 0 (fun _ => true) true t v d p) (hlt : ∀ x ∈ p, x.block < W.heap.size) (hw : ∀ n ∈ d.weights P t, n ≤ 140737488351232) : ∃ xs : List Ad, ReadOf Ad.cs 3 W v xs ∧ ∀ x ∈ xs, adLe 140737488351232 x := by
  obtain ⟨a1, len, cap, rfl⟩ := Go.WideShapes.okWide_slice ht hval
  obtain ⟨fuel, hf⟩ := h
  rcases Go.Deep.open_slice ht hf with ⟨hcs, hx⟩ | ⟨a, len', cap', m, n, D, Pl, hcs, _, hl, hm, hmm, hx, hel⟩
  · simp [Value.cells] at hcs
    obtain ⟨rfl, rfl, rfl⟩ := hcs
    exact ⟨[], ⟨none, 0, rfl, fun i hi => by simp at hi⟩, fun x hx => by cases hx⟩
  · simp [Value.cells] at hcs
    obtain ⟨rfl, rfl, rfl⟩ := hcs
    simp only [Prod.mk.injEq] at hx
    obtain ⟨rfl, rfl⟩ := hx
    simp only [if_true] at hmm
    subst hmm
    rw [ce] at hel hlt
    obtain ⟨ss, hsl, hss⟩ := list_ofE (α := Ad) len (fun i st => (W.cell? ((a.add (i * 3)).add 0) = some (.string ⟨st.name.toArray⟩) ∧ W.cell? ((a.add (i * 3)).add 1) = some (.string ⟨st.loc.toArray⟩) ∧ W.cell? ((a.add (i * 3)).add 2) = some (.string ⟨st.dom.toArray⟩)) ∧ adLe 140737488351232 st) (fun i hi' => by
      obtain ⟨cs', h1, h2⟩ := hel i (by omega)
      obtain ⟨_, hlen, hcell⟩ := World.cells?_some h1
      obtain ⟨ys, n', _, hD, _, hyl, hfs⟩ := DataW.trod_struct he h2
      obtain ⟨y0, y1, y2, rfl⟩ : ∃ y0 y1 y2, ys = [y0, y1, y2] := by
        match ys, hyl with
        | [y0, y1, y2], _ => exact ⟨y0, y1, y2, rfl⟩
      have k0 := hfs 0 f0 rfl
      have k1 := hfs 1 f1 rfl
      have k2 := hfs 2 f2 rfl
      rw [t0, o0, cs] at k0
      rw [t1, o1, cs] at k1
      rw [t2, o2, cs] at k2
      obtain ⟨s0, e0, q0, _⟩ := DataW.trod_string hs k0
      obtain ⟨s1, e1, q1, _⟩ := DataW.trod_string hs k1
      obtain ⟨s2, e2, q2, _⟩ := DataW.trod_string hs k2
      simp only [Prod.mk.injEq] at hD
      have hwD : ∀ n ∈ (D i).weights P e, n ≤ 140737488351232 := fun n hn => hw n (by
        simp only [DataW.weights, ht, List.mem_cons, List.mem_append]
        exact .inr (.inl (weightsAll_memE (List.mem_map.2 ⟨i, List.mem_range.2 hi', rfl⟩) n hn)))
      rw [hD.1] at hwD
      simp only [DataW.weights, he] at hwD
      have w0 : s0.data.toList.length ≤ 140737488351232 := hwD _ (by rw [q0]; simp [DataW.weightsEach, DataW.weights])
      have w1 : s1.data.toList.length ≤ 140737488351232 := hwD _ (by rw [q1]; simp [DataW.weightsEach, DataW.weights])
      have w2 : s2.data.toList.length ≤ 140737488351232 := hwD _ (by rw [q2]; simp [DataW.weightsEach, DataW.weights])
      refine ⟨⟨s0.data.toList, s1.data.toList, s2.data.toList⟩, ⟨?_, ?_, ?_⟩, w0, w1, w2⟩
      · rw [(hcell 0 (by omega)).trans (one_cellE e0)]
      · rw [(hcell 1 (by omega)).trans (one_cellE e1)]
      · rw [(hcell 2 (by omega)).trans (one_cellE e2)])
    subst hsl
    refine ⟨ss, ⟨some a, _, rfl, fun i hi' => ?_⟩, fun x hx => ?_⟩
    · obtain ⟨ab, ao, spot⟩ := a
      have hspot : spot = none := by simpa [Addr.add] using World.cell?_spot (hss 0 (by omega)).1.1
      subst hspot
      refine ⟨ab, ao, rfl, hlt (.cell ab ao) (List.mem_append_left _ (MemPlace.mem_row.2 ⟨0, by omega, by simp⟩)), fun j hj => ?_⟩
      have := (hss i hi').1
      simp only [Go.WideShapes.add_plain, Nat.add_zero] at this
      match j, hj with
      | 0, _ => exact this.1
      | 1, _ => exact this.2.1
      | 2, _ => exact this.2.2
    · obtain ⟨i, hi', rfl⟩ := List.getElem_of_mem hx
      exact (hss i hi').2
end
theorem adCells : Tryd.prog.cellsOf 29 = 3 := by kernel_rfl
theorem adStr : Tryd.prog.cellsOf 9 = 1 := by kernel_rfl
set_option maxRecDepth 100000 in
theorem open_addrs {H : Type} {enc : TypeId × Value → H} {W : World} {base : Nat} {v : Value} {d : DataW H} {p : List MemPlace} (hval : Value.okWide Tryd.prog W .any base 23 v) (h : DataW.Trod enc Tryd.prog W 0 (fun _ => true) true 23 v d p) (hlt : ∀ x ∈ p, x.block < W.heap.size) (hw : ∀ n ∈ d.weights Tryd.prog 23, n ≤ 140737488351232) : ∃ xs : List Ad, ReadOf Ad.cs 3 W v xs ∧ ∀ x ∈ xs, adLe 140737488351232 x :=
  open_addrsP Tryd.underlying23 Tryd.underlying29 Tryd.underlying9 adCells adStr rfl rfl rfl rfl rfl rfl hval h hlt hw
end Go.Proofs.YtkppeejbmalefaaDoor
