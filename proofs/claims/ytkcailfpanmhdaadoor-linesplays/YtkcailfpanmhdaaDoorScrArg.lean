/- A script that came in, opened. -/
import Derived.Test.YtkcailfpanmhdaaDoorLPl2
import Derived.Test.YtkcailfpanmhdaaDoorArgs2
import Derived.Deep.Strs
namespace Go.Proofs.YtkcailfpanmhdaaDoor
open Go.RowKit
theorem list_of {α : Type} : ∀ (n : Nat) (p : Nat → α → Prop), (∀ i, i < n → ∃ x, p i x) → ∃ l : List α, l.length = n ∧ ∀ i (h : i < l.length), p i l[i]
  | 0, _, _ => ⟨[], rfl, fun i h => by simp at h⟩
  | n + 1, p, hp => by
    obtain ⟨l, hl, h⟩ := list_of n p (fun i hi => hp i (by omega))
    obtain ⟨x, hx⟩ := hp n (by omega)
    refine ⟨l ++ [x], by simp [hl], fun i hi => ?_⟩
    by_cases hlt : i < l.length
    · rw [List.getElem_append_left hlt]
      exact h i hlt
    · have hi' : i = n := by simp at hi; omega
      subst hi'
      rw [List.getElem_append_right (by omega)]
      simpa using hx
section
variable {H : Type} {enc : TypeId × Value → H} {P : Program} {W : World}
theorem ar_of_trod {t e : TypeId} {k : IntKind} (ht : P.underlying t = some (.slice e)) (he : P.underlying e = some (.int k)) (hc : P.cellsOf e = 1) {fuel : Nat} {cs : List Value} {x : DataW H × List MemPlace}
    (hf : DataW.trod enc P W 0 (fun _ => true) true fuel t cs = some x) (hlt : ∀ y ∈ x.2, y.block < W.heap.size) : ∃ (v : Value) (zs : List Int), cs = [v] ∧ AR W v (zs.map (Value.int k)) ∧ ∀ z ∈ zs, (Lit.int k z).wf = true := by
  rcases Go.ChangeShapes.open_ints ht he hc hf with ⟨rfl, hx⟩ | ⟨a, len, cap, zs, rfl, _, hl, hm, hz, rfl, hcell, hwz⟩
  · exact ⟨_, [], rfl, ⟨none, 0, rfl, Nat.le_refl _, Nat.zero_le _, fun _ => rfl, fun h => absurd rfl h⟩, fun _ h => by cases h⟩
  · simp only [if_true] at hz
    have hlen : ((zs.take len).map (Value.int k)).length = len := by simp; omega
    refine ⟨_, zs.take len, rfl, ⟨some a, cap, by rw [hlen], by omega, hm, (fun h => by simp at h), fun hne => ?_⟩, fun z hz' => hwz z (List.mem_of_mem_take hz')⟩
    have hpos : 0 < len := by
      rcases Nat.eq_zero_or_pos len with h0 | h0
      · subst h0; simp at hne
      · exact h0
    obtain ⟨ab, ao, spot⟩ := a
    have hspot : spot = none := by simpa [Addr.add] using World.cell?_spot (hcell 0 (by omega))
    subst hspot
    refine ⟨ab, ao, rfl, hlt (.cell ab ao) (MemPlace.mem_row.2 ⟨0, by omega, by simp⟩), fun j u hu => ?_⟩
    have hj := (List.getElem?_eq_some_iff.1 hu).1
    rw [hlen] at hj
    have := hcell j (by omega)
    rw [Go.WideShapes.add_plain] at this
    rw [this, ← hu]
    simp [List.getElem?_take_of_lt hj, List.getD_eq_getElem?_getD, List.getElem?_eq_getElem (show j < zs.length by omega)]
theorem one_cell {cs : List Value} {i : Nat} {v : Value} (h : (cs.drop i).take 1 = [v]) : cs[i]? = some v := by
  have := congrArg (·[0]?) h
  simpa using this
theorem open_script {t e ti tb tu : TypeId} {f0 f1 f2 : Field} (ht : P.underlying t = some (.slice e)) (he : P.underlying e = some (.struct #[f0, f1, f2])) (hi : P.underlying ti = some (.int .i64)) (hb : P.underlying tb = some (.slice tu)) (hu : P.underlying tu = some (.int .u8))
    (ce : P.cellsOf e = 3) (ci : P.cellsOf ti = 1) (cb : P.cellsOf tb = 1) (cu : P.cellsOf tu = 1) (t0 : f0.type = ti) (o0 : f0.offset = 0) (t1 : f1.type = ti) (o1 : f1.offset = 1) (t2 : f2.type = tb) (o2 : f2.offset = 2) {base : Nat} {v : Value} {d : DataW H} {p : List MemPlace}
    (hval : Value.okWide P W .any base t v) (h : DataW.Trod enc P W 0 (fun _ => true) true t v d p) (hlt : ∀ x ∈ p, x.block < W.heap.size) : ∃ ss : List Step, Scr W v ss := by
  obtain ⟨a1, len, cap, rfl⟩ := Go.WideShapes.okWide_slice ht hval
  obtain ⟨fuel, hf⟩ := h
  rcases Go.Deep.open_slice ht hf with ⟨hcs, hx⟩ | ⟨a, len', cap', m, n, D, Pl, hcs, _, hl, hm, hmm, hx, hel⟩
  · simp [Value.cells] at hcs
    obtain ⟨rfl, rfl, rfl⟩ := hcs
    exact ⟨[], none, 0, rfl, Nat.le_refl _, Nat.zero_le _, fun h => absurd rfl h⟩
  · simp [Value.cells] at hcs
    obtain ⟨rfl, rfl, rfl⟩ := hcs
    simp only [Prod.mk.injEq] at hx
    obtain ⟨rfl, rfl⟩ := hx
    simp only [if_true] at hmm
    subst hmm
    rw [ce] at hel hlt
    obtain ⟨ss, hsl, hss⟩ := list_of (α := Step) len (fun i st => W.cell? ((a.add (i * 3)).add 0) = some (.int .i64 st.kind) ∧ W.cell? ((a.add (i * 3)).add 1) = some (.int .i64 st.num) ∧ W.cell? ((a.add (i * 3)).add 2) = some st.val ∧ AR W st.val (st.bytes.map bv)) (fun i hi' => by
      obtain ⟨cs', h1, h2⟩ := hel i (by omega)
      obtain ⟨_, hlen, hcell⟩ := World.cells?_some h1
      obtain ⟨y0, y1, y2, n', hD, _, k0, k1, k2⟩ := Go.Deep.trod_struct3 he h2
      simp only [Prod.mk.injEq] at hD
      rw [t0, o0, ci] at k0
      rw [t1, o1, ci] at k1
      rw [t2, o2, cb] at k2
      obtain ⟨z0, e0, _, _⟩ := DataW.trod_int hi k0
      obtain ⟨z1, e1, _, _⟩ := DataW.trod_int hi k1
      obtain ⟨vb, zs, e2, hA, hw⟩ := ar_of_trod hb hu cu k2 (fun y hy => hlt y (by
        refine List.mem_append_right _ (List.mem_flatMap.2 ⟨i, List.mem_range.2 (by omega), ?_⟩)
        rw [hD.2]
        simp [hy]))
      obtain ⟨bs, hbs⟩ := bytes_of hw
      rw [hbs] at hA
      exact ⟨⟨z0, z1, vb, bs⟩, (hcell 0 (by omega)).trans (one_cell e0), (hcell 1 (by omega)).trans (one_cell e1), (hcell 2 (by omega)).trans (one_cell e2), hA⟩)
    subst hsl
    refine ⟨ss, some a, _, rfl, hl, hm, fun hne => ?_⟩
    have hpos := List.length_pos_iff.2 hne
    obtain ⟨ab, ao, spot⟩ := a
    have hspot : spot = none := by simpa [Addr.add] using World.cell?_spot (hss 0 hpos).1
    subst hspot
    refine ⟨ab, ao, rfl, hlt (.cell ab ao) (List.mem_append_left _ (MemPlace.mem_row.2 ⟨0, by omega, by simp⟩)), fun i hi' => ?_⟩
    have := hss i hi'
    simp only [Go.WideShapes.add_plain, Nat.add_zero] at this
    exact this
end
theorem opCells : Tryd.prog.cellsOf 31 = 3 := by kernel_rfl
theorem opInt : Tryd.prog.cellsOf 3 = 1 := by kernel_rfl
theorem opBytes : Tryd.prog.cellsOf 27 = 1 := by kernel_rfl
theorem opByte : Tryd.prog.cellsOf 5 = 1 := by kernel_rfl
set_option maxRecDepth 100000 in
theorem open_ops {H : Type} {enc : TypeId × Value → H} {W : World} {base : Nat} {v : Value} {d : DataW H} {p : List MemPlace} (hval : Value.okWide Tryd.prog W .any base 22 v) (h : DataW.Trod enc Tryd.prog W 0 (fun _ => true) true 22 v d p) (hlt : ∀ x ∈ p, x.block < W.heap.size) : ∃ ss : List Step, Scr W v ss :=
  open_script Tryd.underlying22 Tryd.underlying31 Tryd.underlying3 Tryd.underlying27 Tryd.underlying5 opCells opInt opBytes opByte rfl rfl rfl rfl rfl rfl hval h hlt
end Go.Proofs.YtkcailfpanmhdaaDoor
