/- A section that came in, opened, with the sizes of its names. -/
import Derived.Test.YtnokanmcgpjkmaaGreatDoorSe3
import Derived.ProofKit
import Derived.OpenShut
import Derived.Deep.Strs
import Derived.Lib.SmallJoins
import Derived.SizedLaws
set_option linter.unusedVariables false
namespace Go.Proofs.YtnokanmcgpjkmaaGreatDoor
open Go.RowKit
theorem list_ofS {α : Type} : ∀ (n : Nat) (p : Nat → α → Prop), (∀ i, i < n → ∃ x, p i x) → ∃ l : List α, l.length = n ∧ ∀ i (h : i < l.length), p i l[i]
  | 0, _, _ => ⟨[], rfl, fun i h => by simp at h⟩
  | n + 1, p, hp => by
    obtain ⟨l, hl, h⟩ := list_ofS n p (fun i hi => hp i (by omega))
    obtain ⟨x, hx⟩ := hp n (by omega)
    refine ⟨l ++ [x], by simp [hl], fun i hi => ?_⟩
    by_cases hlt : i < l.length
    · rw [List.getElem_append_left hlt]
      exact h i hlt
    · have hi' : i = n := by simp at hi; omega
      subst hi'
      rw [List.getElem_append_right (by omega)]
      simpa using hx
theorem one_cellS {cs : List Value} {i : Nat} {v : Value} (h : (cs.drop i).take 1 = [v]) : cs[i]? = some v := by
  have := congrArg (·[0]?) h
  simpa using this
section
variable {H : Type} {enc : TypeId × Value → H} {P : Program} {W : World} {R : Nat}
theorem weightsAll_memS {e : TypeId} : ∀ {l : List (DataW H)} {d : DataW H}, d ∈ l → ∀ n ∈ d.weights P e, n ∈ DataW.weightsAll P e l
  | d' :: r, d, hd, n, hn => by
    simp only [DataW.weightsAll, List.mem_append]
    rcases List.mem_cons.1 hd with rfl | h
    · exact Or.inl hn
    · exact Or.inr (weightsAll_memS h n hn)
/-- A slice, one level of it. -/
theorem sl_openS {t e : TypeId} {c : Nat} (ht : P.underlying t = some (.slice e)) (hc : P.cellsOf e = c) (hc0 : 0 < c) {fuel : Nat} {cs : List Value} {x : DataW H × List MemPlace} (h : DataW.trod enc P W 0 (fun _ => true) true fuel t cs = some x) (hlt : ∀ y ∈ x.2, y.block < W.heap.size) (hw : ∀ n ∈ x.1.weights P t, n ≤ R) :
    ∃ A len cap, cs = [.slice A len cap] ∧ len * P.bytesOf e ≤ R ∧ len ≤ maxLen ∧ len ≤ cap ∧ ∀ i, i < len → ∃ g o cs' y n, A = some ⟨g, o, none⟩ ∧ g < W.heap.size ∧ fuel = n + 1 ∧ cs'.length = c ∧ (∀ j, j < c → W.cell? ⟨g, o + i * c + j, none⟩ = cs'[j]?) ∧ DataW.trod enc P W 0 (fun _ => true) true n e cs' = some y ∧ (∀ z ∈ y.2, z.block < W.heap.size) ∧ ∀ n ∈ y.1.weights P e, n ≤ R := by
  rcases DataW.trod_slice ht h with ⟨rfl, rfl⟩ | ⟨a, len, cap, elems, rest, n, rfl, rfl, rfl, _, hl, hm, hlen, hel, hsp, _⟩
  · exact ⟨none, 0, 0, rfl, by simp, Nat.zero_le _, Nat.le_refl _, fun i hi => by omega⟩
  · have h1 := hw ((elems.length + rest.length) * P.bytesOf e) (by simp [DataW.weights, ht])
    refine ⟨some a, len, cap, rfl, ?_, by omega, by omega, fun i hi => ?_⟩
    · rw [← hlen]
      exact Nat.le_trans (Nat.mul_le_mul_right _ (Nat.le_add_right _ _)) h1
    · have key : ∀ i, i < len → ∃ cs' y, (W.cells? 0 (a.add (i * c)) c) = some cs' ∧ DataW.trod enc P W 0 (fun _ => true) true n e cs' = some y ∧ elems[i]? = some y := fun i hi => by
        have := hel i hi
        rw [hc, List.getElem?_eq_getElem (by omega)] at this
        obtain ⟨cs', a1, a2⟩ := Option.bind_eq_some_iff.1 this
        exact ⟨cs', _, a1, a2, List.getElem?_eq_getElem (by omega)⟩
      obtain ⟨cs0, y0, z1, _, _⟩ := key 0 (by omega)
      obtain ⟨cs', y, k1, k2, k3⟩ := key i hi
      obtain ⟨_, hl0, hcell0⟩ := World.cells?_some z1
      obtain ⟨_, hl1, hcell1⟩ := World.cells?_some k1
      obtain ⟨ab, ao, spot⟩ := a
      have hspot : spot = none := by
        have h0 := hcell0 0 hc0
        rw [List.getElem?_eq_getElem (by omega)] at h0
        simpa [Addr.add] using World.cell?_spot h0
      subst hspot
      have hmem := List.mem_of_getElem? k3
      refine ⟨ab, ao, cs', y, n, rfl, hlt (.cell ab ao) (List.mem_append_left _ (MemPlace.mem_row.2 ⟨0, ?_, by simp⟩)), rfl, hl1, fun j hj => ?_, k2, fun z hz => hlt z (List.mem_append_right _ (List.mem_flatMap.2 ⟨y, List.mem_append_left _ hmem, hz⟩)), fun m hm => hw m ?_⟩
      · rw [hc, hlen]
        exact Nat.mul_pos (by omega) hc0
      · have := hcell1 j hj
        simp only [Go.WideShapes.add_plain] at this
        exact this
      · simp only [DataW.weights, ht, List.mem_cons, List.mem_append]
        exact .inr (.inl (weightsAll_memS (List.mem_map.2 ⟨y, hmem, rfl⟩) m hm))
/-- A text's cell. -/
theorem st_openS {ts : TypeId} (hs : P.underlying ts = some .string) {fuel : Nat} {cs : List Value} {x : DataW H × List MemPlace} (h : DataW.trod enc P W 0 (fun _ => true) true fuel ts cs = some x) (hw : ∀ n ∈ x.1.weights P ts, n ≤ R) : ∃ l : List UInt8, cs = [.string ⟨l.toArray⟩] ∧ l.length ≤ R := by
  obtain ⟨s, e, q, _⟩ := DataW.trod_string hs h
  refine ⟨s.data.toList, by rw [e], hw _ ?_⟩
  rw [q]
  simp [DataW.weights]
theorem each_memS : ∀ {ts : List TypeId} {ds : List (DataW H)} {k : Nat} {t : TypeId} {d : DataW H}, ts[k]? = some t → ds[k]? = some d → ∀ n ∈ d.weights P t, n ∈ DataW.weightsEach P ts ds
  | t0 :: ts, d0 :: ds, 0, t, d, h1, h2, n, hn => by
    simp only [List.getElem?_cons_zero, Option.some.injEq] at h1 h2
    subst h1
    subst h2
    simp only [DataW.weightsEach, List.mem_append]
    exact .inl hn
  | t0 :: ts, d0 :: ds, k + 1, t, d, h1, h2, n, hn => by
    simp only [List.getElem?_cons_succ] at h1 h2
    simp only [DataW.weightsEach, List.mem_append]
    exact .inr (each_memS h1 h2 n hn)
  | [], _, k, _, _, h1, _, _, _ => by simp at h1
  | _ :: _, [], k, _, _, _, h2, _, _ => by simp at h2
/-- A struct's field, read. -/
theorem fld_openS {t : TypeId} {fs : Array Field} (ht : P.underlying t = some (.struct fs)) {fuel : Nat} {cs : List Value} {x : DataW H × List MemPlace} (h : DataW.trod enc P W 0 (fun _ => true) true fuel t cs = some x) (hlt : ∀ y ∈ x.2, y.block < W.heap.size) (hw : ∀ n ∈ x.1.weights P t, n ≤ R) :
    ∃ n, fuel = n + 1 ∧ cs.length = P.cellsOf t ∧ ∀ (i : Nat) (f : Field), fs[i]? = some f → ∃ y, DataW.trod enc P W 0 (fun _ => true) true n f.type ((cs.drop f.offset).take (P.cellsOf f.type)) = some y ∧ (∀ z ∈ y.2, z.block < W.heap.size) ∧ ∀ m ∈ y.1.weights P f.type, m ≤ R := by
  obtain ⟨xs, n, rfl, rfl, hl, hx, hf⟩ := DataW.trod_struct ht h
  refine ⟨n, rfl, hl, fun i f hi => ?_⟩
  have hil : i < xs.length := by
    rw [hx]
    exact (Array.getElem?_eq_some_iff.1 hi).1
  have h1 := hf i f hi
  rw [List.getElem?_eq_getElem hil] at h1
  refine ⟨xs[i], h1, fun z hz => hlt z (List.mem_flatMap.2 ⟨_, List.getElem_mem hil, hz⟩), fun m hm => hw m ?_⟩
  simp only [DataW.weights, ht]
  refine each_memS (k := i) (t := f.type) ?_ ?_ m hm
  · simp [hi]
  · simp [hil]
theorem spec_open {tp tl tn ts ti : TypeId} {f0 f1 f2 : Field} (hp : P.underlying tp = some (.struct #[f0, f1, f2])) (hl : P.underlying tl = some (.slice ti)) (hn : P.underlying tn = some (.slice ts)) (hs : P.underlying ts = some .string) (hi : P.underlying ti = some (.int .i64))
    (cp : P.cellsOf tp = 3) (cl : P.cellsOf tl = 1) (cn : P.cellsOf tn = 1) (cs' : P.cellsOf ts = 1) (ci : P.cellsOf ti = 1) (t0 : f0.type = tl) (o0 : f0.offset = 0) (t1 : f1.type = ts) (o1 : f1.offset = 1) (t2 : f2.type = tn) (o2 : f2.offset = 2)
    {fuel : Nat} {cs : List Value} {x : DataW H × List MemPlace} (h : DataW.trod enc P W 0 (fun _ => true) true fuel tp cs = some x) (hlt : ∀ y ∈ x.2, y.block < W.heap.size) (hw : ∀ n ∈ x.1.weights P tp, n ≤ R) :
    ∃ (p : Spc) (pv nv : Value), cs = [pv, .string ⟨p.what.toArray⟩, nv] ∧ SpA W pv nv p ∧ (∀ A n c, nv = .slice A n c → n ≤ c) ∧ ∀ q ∈ p.names, q.length ≤ R := by
  obtain ⟨n, rfl, hcl, hf⟩ := fld_openS hp h hlt hw
  rw [cp] at hcl
  obtain ⟨y0, q0, p0, w0⟩ := hf 0 f0 rfl
  rw [t0, o0, cl] at q0
  rw [t0] at w0
  obtain ⟨y1, q1, p1, w1⟩ := hf 1 f1 rfl
  rw [t1, o1, cs'] at q1
  rw [t1] at w1
  obtain ⟨y2, q2, p2, w2⟩ := hf 2 f2 rfl
  rw [t2, o2, cn] at q2
  rw [t2] at w2
  obtain ⟨A, len, cap, e0, _, _, hc0, hk0⟩ := sl_openS hl ci (by omega) q0 p0 w0
  obtain ⟨l1, e1, n1⟩ := st_openS hs q1 w1
  obtain ⟨A2, len2, cap2, e2, _, _, hc2, hk2⟩ := sl_openS hn cs' (by omega) q2 p2 w2
  have hcs : cs = [.slice A len cap, .string ⟨l1.toArray⟩, .slice A2 len2 cap2] := by
    refine List.ext_getElem? (fun j => ?_)
    by_cases hj : j < 3
    · match j, hj with
      | 0, _ => exact one_cellS e0
      | 1, _ => exact one_cellS e1
      | 2, _ => exact one_cellS e2
    · rw [List.getElem?_eq_none (by omega), List.getElem?_eq_none (by simp; omega)]
  obtain ⟨zs, hzl, hzs⟩ := list_ofS (α := Int) len (fun i z => ∃ g o, A = some ⟨g, o, none⟩ ∧ g < W.heap.size ∧ W.cell? ⟨g, o + i, none⟩ = some (.int .i64 z)) (fun i hi' => by
    obtain ⟨g, o, cs1, y, n', e1, hg, _, hl1, hc1, ht1, hp1, hw1⟩ := hk0 i hi'
    obtain ⟨z, e6, _, _⟩ := DataW.trod_int hi ht1
    refine ⟨z, g, o, e1, hg, ?_⟩
    have := hc1 0 (by omega)
    rw [e6, Nat.mul_one, Nat.add_zero] at this
    exact this)
  obtain ⟨ns, hnl, hns⟩ := list_ofS (α := List UInt8) len2 (fun i z => (∃ g o, A2 = some ⟨g, o, none⟩ ∧ g < W.heap.size ∧ W.cell? ⟨g, o + i, none⟩ = some (.string ⟨z.toArray⟩)) ∧ z.length ≤ R) (fun i hi' => by
    obtain ⟨g, o, cs1, y, n', e1, hg, _, hl1, hc1, ht1, hp1, hw1⟩ := hk2 i hi'
    obtain ⟨l, e6, n6⟩ := st_openS hs ht1 hw1
    refine ⟨l, ⟨g, o, e1, hg, ?_⟩, n6⟩
    have := hc1 0 (by omega)
    rw [e6, Nat.mul_one, Nat.add_zero] at this
    exact this)
  subst hzl
  subst hnl
  refine ⟨⟨zs, l1, ns⟩, .slice A zs.length cap, .slice A2 ns.length cap2, hcs, ⟨⟨A, cap, rfl, fun i hi' => ?_⟩, ⟨A2, cap2, rfl, fun i hi' => ?_⟩⟩, (fun A n c e => by cases e; exact hc2), fun q hq => ?_⟩
  · obtain ⟨g, o, h1, h2, h3⟩ := hzs i hi'
    refine ⟨g, o, h1, h2, fun j hj => ?_⟩
    obtain rfl : j = 0 := by omega
    rw [Nat.mul_one, Nat.add_zero, h3]
    rfl
  · obtain ⟨g, o, h1, h2, h3⟩ := (hns i hi').1
    refine ⟨g, o, h1, h2, fun j hj => ?_⟩
    obtain rfl : j = 0 := by omega
    rw [Nat.mul_one, Nat.add_zero, h3]
    rfl
  · obtain ⟨i, hi', rfl⟩ := List.getElem_of_mem hq
    exact (hns i hi').2
end
theorem spCells : Tryz.prog.cellsOf 26 = 3 := by kernel_rfl
theorem spInts : Tryz.prog.cellsOf 23 = 1 := by kernel_rfl
theorem spStrs : Tryz.prog.cellsOf 24 = 1 := by kernel_rfl
theorem spStr : Tryz.prog.cellsOf 9 = 1 := by kernel_rfl
theorem spInt : Tryz.prog.cellsOf 3 = 1 := by kernel_rfl
set_option maxRecDepth 100000 in
theorem open_spec {H : Type} {enc : TypeId × Value → H} {W : World} {base : Nat} {v : Value} {d : DataW H} {p : List MemPlace} (hval : Value.okWide Tryz.prog W .any base 26 v) (h : DataW.Trod enc Tryz.prog W 0 (fun _ => true) true 26 v d p) (hlt : ∀ x ∈ p, x.block < W.heap.size) (hw : ∀ n ∈ d.weights Tryz.prog 26, n ≤ 140737488351232) : ∃ (q : Spc) (pv nv : Value), v = spV pv nv q ∧ SpA W pv nv q ∧ (∀ A n c, nv = .slice A n c → n ≤ c) ∧ ∀ x ∈ q.names, x.length ≤ 140737488351232 := by
  obtain ⟨cs, rfl, _⟩ := Go.WideShapes.okWide_struct Tryz.underlying26 hval
  obtain ⟨fuel, hf⟩ := h
  obtain ⟨q, pv, nv, h0, h1, h2, h3⟩ := spec_open Tryz.underlying26 Tryz.underlying23 Tryz.underlying24 Tryz.underlying9 Tryz.underlying3 spCells spInts spStrs spStr spInt rfl rfl rfl rfl rfl rfl hf hlt hw
  refine ⟨q, pv, nv, ?_, h1, h2, h3⟩
  have : cs.toList = [pv, .string ⟨q.what.toArray⟩, nv] := h0
  unfold spV
  congr 1
  rw [← Array.toArray_toList (xs := cs), this]
end Go.Proofs.YtnokanmcgpjkmaaGreatDoor
