/- A slice of fields that came in, opened. -/
import Derived.Test.YtgmdpjncgdojbaaDoorHg1
import Derived.ProofKit
import Derived.OpenShut
import Derived.Deep.Strs
namespace Go.Proofs.YtgmdpjncgdojbaaDoor
open Go.RowKit
theorem list_ofF {α : Type} : ∀ (n : Nat) (p : Nat → α → Prop), (∀ i, i < n → ∃ x, p i x) → ∃ l : List α, l.length = n ∧ ∀ i (h : i < l.length), p i l[i]
  | 0, _, _ => ⟨[], rfl, fun i h => by simp at h⟩
  | n + 1, p, hp => by
    obtain ⟨l, hl, h⟩ := list_ofF n p (fun i hi => hp i (by omega))
    obtain ⟨x, hx⟩ := hp n (by omega)
    refine ⟨l ++ [x], by simp [hl], fun i hi => ?_⟩
    by_cases hlt : i < l.length
    · rw [List.getElem_append_left hlt]
      exact h i hlt
    · have hi' : i = n := by simp at hi; omega
      subst hi'
      rw [List.getElem_append_right (by omega)]
      simpa using hx
theorem one_cellF {cs : List Value} {i : Nat} {v : Value} (h : (cs.drop i).take 1 = [v]) : cs[i]? = some v := by
  have := congrArg (·[0]?) h
  simpa using this
section
variable {H : Type} {enc : TypeId × Value → H} {P : Program} {W : World}
theorem open_fieldsP {t e ti ts : TypeId} {f0 f1 f2 f3 : Field} (ht : P.underlying t = some (.slice e)) (he : P.underlying e = some (.struct #[f0, f1, f2, f3])) (hi : P.underlying ti = some (.int .i64)) (hs : P.underlying ts = some .string)
    (ce : P.cellsOf e = 4) (ci : P.cellsOf ti = 1) (cs : P.cellsOf ts = 1) (t0 : f0.type = ts) (o0 : f0.offset = 0) (t1 : f1.type = ts) (o1 : f1.offset = 1) (t2 : f2.type = ti) (o2 : f2.offset = 2) (t3 : f3.type = ti) (o3 : f3.offset = 3) {base : Nat} {v : Value} {d : DataW H} {p : List MemPlace}
    (hval : Value.okWide P W .any base t v) (h : DataW.Trod enc P W 0 (fun _ => true) true t v d p) (hlt : ∀ x ∈ p, x.block < W.heap.size) : ∃ xs : List FI, FA W v xs := by
  obtain ⟨a1, len, cap, rfl⟩ := Go.WideShapes.okWide_slice ht hval
  obtain ⟨fuel, hf⟩ := h
  rcases Go.Deep.open_slice ht hf with ⟨hcs, hx⟩ | ⟨a, len', cap', m, n, D, Pl, hcs, _, hl, hm, hmm, hx, hel⟩
  · simp [Value.cells] at hcs
    obtain ⟨rfl, rfl, rfl⟩ := hcs
    exact ⟨[], none, 0, rfl, fun i hi => by simp at hi⟩
  · simp [Value.cells] at hcs
    obtain ⟨rfl, rfl, rfl⟩ := hcs
    simp only [Prod.mk.injEq] at hx
    obtain ⟨rfl, rfl⟩ := hx
    simp only [if_true] at hmm
    subst hmm
    rw [ce] at hel hlt
    obtain ⟨ss, hsl, hss⟩ := list_ofF (α := FI) len (fun i st => W.cell? ((a.add (i * 4)).add 0) = some (.string ⟨st.name.toArray⟩) ∧ W.cell? ((a.add (i * 4)).add 1) = some (.string ⟨st.value.toArray⟩) ∧ W.cell? ((a.add (i * 4)).add 2) = some (.int .i64 st.a) ∧ W.cell? ((a.add (i * 4)).add 3) = some (.int .i64 st.e)) (fun i hi' => by
      obtain ⟨cs', h1, h2⟩ := hel i (by omega)
      obtain ⟨_, hlen, hcell⟩ := World.cells?_some h1
      obtain ⟨ys, n', _, hD, _, hyl, hfs⟩ := DataW.trod_struct he h2
      obtain ⟨y0, y1, y2, y3, rfl⟩ : ∃ y0 y1 y2 y3, ys = [y0, y1, y2, y3] := by
        match ys, hyl with
        | [y0, y1, y2, y3], _ => exact ⟨y0, y1, y2, y3, rfl⟩
      have k0 := hfs 0 f0 rfl
      have k1 := hfs 1 f1 rfl
      have k2 := hfs 2 f2 rfl
      have k3 := hfs 3 f3 rfl
      rw [t0, o0, cs] at k0
      rw [t1, o1, cs] at k1
      rw [t2, o2, ci] at k2
      rw [t3, o3, ci] at k3
      obtain ⟨s0, e0, _, _⟩ := DataW.trod_string hs k0
      obtain ⟨s1, e1, _, _⟩ := DataW.trod_string hs k1
      obtain ⟨z2, e2, _, _⟩ := DataW.trod_int hi k2
      obtain ⟨z3, e3, _, _⟩ := DataW.trod_int hi k3
      exact ⟨⟨s0.data.toList, s1.data.toList, z2, z3⟩, (hcell 0 (by omega)).trans (one_cellF e0), (hcell 1 (by omega)).trans (one_cellF e1), (hcell 2 (by omega)).trans (one_cellF e2), (hcell 3 (by omega)).trans (one_cellF e3)⟩)
    subst hsl
    refine ⟨ss, some a, _, rfl, fun i hi' => ?_⟩
    obtain ⟨ab, ao, spot⟩ := a
    have hspot : spot = none := by simpa [Addr.add] using World.cell?_spot (hss 0 (by omega)).1
    subst hspot
    have := hss i hi'
    simp only [Go.WideShapes.add_plain, Nat.add_zero] at this
    exact ⟨ab, ao, rfl, hlt (.cell ab ao) (List.mem_append_left _ (MemPlace.mem_row.2 ⟨0, by omega, by simp⟩)), this⟩
end
theorem fdCells : Tryd.prog.cellsOf 35 = 4 := by kernel_rfl
theorem fdInt : Tryd.prog.cellsOf 3 = 1 := by kernel_rfl
theorem fdStr : Tryd.prog.cellsOf 9 = 1 := by kernel_rfl
set_option maxRecDepth 100000 in
theorem open_fields {H : Type} {enc : TypeId × Value → H} {W : World} {base : Nat} {v : Value} {d : DataW H} {p : List MemPlace} (hval : Value.okWide Tryd.prog W .any base 23 v) (h : DataW.Trod enc Tryd.prog W 0 (fun _ => true) true 23 v d p) (hlt : ∀ x ∈ p, x.block < W.heap.size) : ∃ xs : List FI, FA W v xs :=
  open_fieldsP Tryd.underlying23 Tryd.underlying35 Tryd.underlying3 Tryd.underlying9 fdCells fdInt fdStr rfl rfl rfl rfl rfl rfl rfl rfl hval h hlt
end Go.Proofs.YtgmdpjncgdojbaaDoor
