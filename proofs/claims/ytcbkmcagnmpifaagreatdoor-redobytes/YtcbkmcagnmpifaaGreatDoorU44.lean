/- A change that came in, opened, with the sizes of its parts. -/
import Derived.Test.YtcbkmcagnmpifaaGreatDoorU42
import Derived.Deep.Strs
import Derived.Lib.SmallJoins
import Derived.SizedLaws
namespace Go.Proofs.YtcbkmcagnmpifaaGreatDoor
open Go.RowKit
theorem list_of {α : Type} : ∀ (n : Nat) (p : Nat → α → Prop), (∀ i, i < n → ∃ x, p i x) → ∃ l : List α, l.length = n ∧ ∀ i (h : i < l.length), p i l[i]
  | 0, _, _ => ⟨[], rfl, fun i h => by simp at h⟩
  | n + 1, p, hp => by
    obtain ⟨l, hl, h⟩ := list_of n p (fun i hi => hp i (by omega))
    obtain ⟨x, hx⟩ := hp n (by omega)
    refine ⟨l ++ [x], by simp [hl], fun i hi => ?_⟩
    by_cases hlt : i < l.length
    · rw [List.getElem_append_left hlt]
      exact h i hlt
    · have hi' : i = n := by simp at hi; omega
      subst hi'
      rw [List.getElem_append_right (by omega)]
      simpa using hx
section
variable {H : Type} {enc : TypeId × Value → H} {P : Program} {W : World}
theorem ar_of_trod {t e : TypeId} {k : IntKind} (ht : P.underlying t = some (.slice e)) (he : P.underlying e = some (.int k)) (hc : P.cellsOf e = 1) {fuel : Nat} {cs : List Value} {x : DataW H × List MemPlace}
    (hf : DataW.trod enc P W 0 (fun _ => true) true fuel t cs = some x) (hlt : ∀ y ∈ x.2, y.block < W.heap.size) : ∃ (v : Value) (zs : List Int), cs = [v] ∧ AR W v (zs.map (Value.int k)) ∧ ∀ z ∈ zs, (Lit.int k z).wf = true := by
  rcases Go.ChangeShapes.open_ints ht he hc hf with ⟨rfl, hx⟩ | ⟨a, len, cap, zs, rfl, _, hl, hm, hz, rfl, hcell, hwz⟩
  · exact ⟨_, [], rfl, ⟨none, 0, rfl, Nat.le_refl _, Nat.zero_le _, fun _ => rfl, fun h => absurd rfl h⟩, fun _ h => by cases h⟩
  · simp only [if_true] at hz
    have hlen : ((zs.take len).map (Value.int k)).length = len := by simp; omega
    refine ⟨_, zs.take len, rfl, ⟨some a, cap, by rw [hlen], by omega, hm, (fun h => by simp at h), fun hne => ?_⟩, fun z hz' => hwz z (List.mem_of_mem_take hz')⟩
    have hpos : 0 < len := by
      rcases Nat.eq_zero_or_pos len with h0 | h0
      · subst h0; simp at hne
      · exact h0
    obtain ⟨ab, ao, spot⟩ := a
    have hspot : spot = none := by simpa [Addr.add] using World.cell?_spot (hcell 0 (by omega))
    subst hspot
    refine ⟨ab, ao, rfl, hlt (.cell ab ao) (MemPlace.mem_row.2 ⟨0, by omega, by simp⟩), fun j u hu => ?_⟩
    have hj := (List.getElem?_eq_some_iff.1 hu).1
    rw [hlen] at hj
    have := hcell j (by omega)
    rw [Go.WideShapes.add_plain] at this
    rw [this, ← hu]
    simp [List.getElem?_take_of_lt hj, List.getD_eq_getElem?_getD, List.getElem?_eq_getElem (show j < zs.length by omega)]
theorem one_cell {cs : List Value} {i : Nat} {v : Value} (h : (cs.drop i).take 1 = [v]) : cs[i]? = some v := by
  have := congrArg (·[0]?) h
  simpa using this
theorem len_of_trod {t e : TypeId} (ht : P.underlying t = some (.slice e)) (hby : 0 < P.bytesOf e) {fuel : Nat} {cs : List Value} {x : DataW H × List MemPlace} (hf : DataW.trod enc P W 0 (fun _ => true) true fuel t cs = some x) {R : Nat} (hw : ∀ n ∈ x.1.weights P t, n ≤ R) :
    ∀ A n c, cs = [.slice A n c] → n ≤ R := by
  rintro A n c rfl
  rcases Go.Deep.open_slice ht hf with ⟨hcs, _⟩ | ⟨a, len, cap, m, n', D, Pl, hcs, _, _, _, _, hx, _⟩
  · simp only [List.cons.injEq, Value.slice.injEq, and_true] at hcs
    omega
  · simp only [List.cons.injEq, Value.slice.injEq, and_true] at hcs
    obtain ⟨_, rfl, _⟩ := hcs
    have h1 := hw ((((List.range n).map D).length + ((List.range (m - n)).map fun j => D (n + j)).length) * P.bytesOf e) (by rw [hx]; simp [DataW.weights, ht])
    rw [List.length_map, List.length_range] at h1
    exact Nat.le_trans (Nat.le_trans (Nat.le_add_right n _) (Nat.le_mul_of_pos_right _ hby)) h1
theorem weightsAll_mem {e : TypeId} : ∀ {l : List (DataW H)} {d : DataW H}, d ∈ l → ∀ n ∈ d.weights P e, n ∈ DataW.weightsAll P e l
  | d' :: r, d, hd, n, hn => by
    simp only [DataW.weightsAll, List.mem_append]
    rcases List.mem_cons.1 hd with rfl | h
    · exact Or.inl hn
    · exact Or.inr (weightsAll_mem h n hn)
theorem open_change {t e ti ts tb tu : TypeId} {f0 f1 f2 f3 : Field} (ht : P.underlying t = some (.slice e)) (he : P.underlying e = some (.struct #[f0, f1, f2, f3])) (hi : P.underlying ti = some (.int .i64)) (hs : P.underlying ts = some .string) (hb : P.underlying tb = some (.slice tu)) (hu : P.underlying tu = some (.int .u8))
    (ce : P.cellsOf e = 4) (ci : P.cellsOf ti = 1) (cs' : P.cellsOf ts = 1) (cb : P.cellsOf tb = 1) (cu : P.cellsOf tu = 1) (be : 0 < P.bytesOf e) (bu : 0 < P.bytesOf tu) (t0 : f0.type = ti) (o0 : f0.offset = 0) (t1 : f1.type = ts) (o1 : f1.offset = 1) (t2 : f2.type = ti) (o2 : f2.offset = 2) (t3 : f3.type = tb) (o3 : f3.offset = 3) {base : Nat} {v : Value} {d : DataW H} {p : List MemPlace}
    (hval : Value.okWide P W .any base t v) (h : DataW.Trod enc P W 0 (fun _ => true) true t v d p) (hlt : ∀ x ∈ p, x.block < W.heap.size) (hw : ∀ n ∈ d.weights P t, n ≤ 140737488351232) : ∃ ops : List OpA, OPs W v ops ∧ Reach ops := by
  obtain ⟨a1, len, cap, rfl⟩ := Go.WideShapes.okWide_slice ht hval
  obtain ⟨fuel, hf⟩ := h
  have hlenR := len_of_trod ht be hf hw a1 len cap (by simp [Value.cells])
  rcases Go.Deep.open_slice ht hf with ⟨hcs, hx⟩ | ⟨a, len', cap', m, n, D, Pl, hcs, _, hl, hm, hmm, hx, hel⟩
  · simp [Value.cells] at hcs
    obtain ⟨rfl, rfl, rfl⟩ := hcs
    exact ⟨[], ⟨none, 0, rfl, Nat.le_refl _, Nat.zero_le _, fun _ => rfl, fun h => absurd rfl h⟩, Nat.zero_le _, fun x hx => by cases hx⟩
  · simp [Value.cells] at hcs
    obtain ⟨rfl, rfl, rfl⟩ := hcs
    simp only [Prod.mk.injEq] at hx
    obtain ⟨rfl, rfl⟩ := hx
    simp only [if_true] at hmm
    subst hmm
    rw [ce] at hel hlt
    obtain ⟨ss, hsl, hss⟩ := list_of (α := OpA) len (fun i st => (W.cell? ((a.add (i * 4)).add 0) = some (.int .i64 st.kind) ∧ W.cell? ((a.add (i * 4)).add 1) = some (.string ⟨st.name.toArray⟩) ∧ W.cell? ((a.add (i * 4)).add 2) = some (.int .i64 st.at_) ∧ W.cell? ((a.add (i * 4)).add 3) = some st.val ∧ BR W st.val st.bytes) ∧ st.name.length ≤ 140737488351232 ∧ st.bytes.length ≤ 140737488351232) (fun i hi' => by
      obtain ⟨cs1, h1, h2⟩ := hel i (by omega)
      obtain ⟨_, hlen, hcell⟩ := World.cells?_some h1
      obtain ⟨y0, y1, y2, y3, n', hD, _, k0, k1, k2, k3⟩ := Go.Joins.trod_struct4 he h2
      simp only [Prod.mk.injEq] at hD
      rw [t0, o0, ci] at k0
      rw [t1, o1, cs'] at k1
      rw [t2, o2, ci] at k2
      rw [t3, o3, cb] at k3
      obtain ⟨z0, e0, _, _⟩ := DataW.trod_int hi k0
      obtain ⟨s1, e1, hy1, _⟩ := DataW.trod_string hs k1
      obtain ⟨z2, e2, _, _⟩ := DataW.trod_int hi k2
      have hwD : ∀ n ∈ (D i).weights P e, n ≤ 140737488351232 := fun n hn => hw n (by
        simp only [DataW.weights, ht, List.mem_cons, List.mem_append]
        exact .inr (.inl (weightsAll_mem (List.mem_map.2 ⟨i, List.mem_range.2 hi', rfl⟩) n hn)))
      rw [hD.1] at hwD
      simp only [DataW.weights, he] at hwD
      have hw1 : s1.data.toList.length ≤ 140737488351232 := hwD _ (by rw [hy1]; simp [DataW.weightsEach, DataW.weights])
      have hw3 : ∀ n ∈ y3.1.weights P tb, n ≤ 140737488351232 := fun n hn => hwD n (by
        simp only [List.map_cons, List.map_nil, DataW.weightsEach, t3, List.mem_append]
        exact .inr (.inr (.inr (.inl hn))))
      obtain ⟨vb, zs, e3, hA, hwf⟩ := ar_of_trod hb hu cu k3 (fun y hy => hlt y (by
        refine List.mem_append_right _ (List.mem_flatMap.2 ⟨i, List.mem_range.2 (by omega), ?_⟩)
        rw [hD.2]
        simp [hy]))
      obtain ⟨bs, hbs⟩ := bytes_of hwf
      rw [hbs] at hA
      obtain ⟨Ab, cb', hvb, _⟩ := BR.form hA
      have hb3 := len_of_trod hb bu k3 hw3 Ab bs.length cb' (by rw [e3, hvb])
      refine ⟨⟨z0, s1.data.toList, z2, vb, bs⟩, ⟨(hcell 0 (by omega)).trans (one_cell e0), ?_, (hcell 2 (by omega)).trans (one_cell e2), (hcell 3 (by omega)).trans (one_cell e3), hA⟩, hw1, hb3⟩
      rw [(hcell 1 (by omega)).trans (one_cell e1)])
    subst hsl
    refine ⟨ss, ⟨some a, _, rfl, hl, hm, (fun h => by cases h), fun hne => ?_⟩, hlenR, fun x hx => ?_⟩
    · have hpos := List.length_pos_iff.2 hne
      obtain ⟨ab, ao, spot⟩ := a
      have hspot : spot = none := by simpa [Addr.add] using World.cell?_spot (hss 0 hpos).1.1
      subst hspot
      refine ⟨ab, ao, rfl, hlt (.cell ab ao) (List.mem_append_left _ (MemPlace.mem_row.2 ⟨0, by omega, by simp⟩)), fun i hi' => ?_⟩
      have := (hss i hi').1
      simp only [Go.WideShapes.add_plain, Nat.add_zero] at this
      exact this
    · obtain ⟨i, hi', rfl⟩ := List.getElem_of_mem hx
      exact (hss i hi').2
end
theorem opCells : Tryz.prog.cellsOf 35 = 4 := by kernel_rfl
theorem opInt : Tryz.prog.cellsOf 3 = 1 := by kernel_rfl
theorem opStr : Tryz.prog.cellsOf 9 = 1 := by kernel_rfl
theorem opBytes : Tryz.prog.cellsOf 25 = 1 := by kernel_rfl
theorem opByte : Tryz.prog.cellsOf 5 = 1 := by kernel_rfl
theorem opBy : 0 < Tryz.prog.bytesOf 35 := by
  rw [show Tryz.prog.bytesOf 35 = 56 by kernel_rfl]
  decide
theorem opBu : 0 < Tryz.prog.bytesOf 5 := by
  rw [show Tryz.prog.bytesOf 5 = 1 by kernel_rfl]
  decide
set_option maxRecDepth 100000 in
theorem open_ops {H : Type} {enc : TypeId × Value → H} {W : World} {base : Nat} {v : Value} {d : DataW H} {p : List MemPlace} (hval : Value.okWide Tryz.prog W .any base 22 v) (h : DataW.Trod enc Tryz.prog W 0 (fun _ => true) true 22 v d p) (hlt : ∀ x ∈ p, x.block < W.heap.size) (hw : ∀ n ∈ d.weights Tryz.prog 22, n ≤ 140737488351232) : ∃ ops : List OpA, OPs W v ops ∧ Reach ops :=
  open_change Tryz.underlying22 Tryz.underlying35 Tryz.underlying3 Tryz.underlying9 Tryz.underlying25 Tryz.underlying5 opCells opInt opStr opBytes opByte opBy opBu rfl rfl rfl rfl rfl rfl rfl rfl hval h hlt hw
end Go.Proofs.YtcbkmcagnmpifaaGreatDoor
