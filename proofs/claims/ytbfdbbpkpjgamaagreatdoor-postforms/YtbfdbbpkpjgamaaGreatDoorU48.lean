/- How what came in is opened, one level at a time. -/
/- A state that came in, opened, with the sizes of its texts and lists. -/
/- What the law PostForms is handed, opened. -/
import Derived.Test.YtbfdbbpkpjgamaaGreatDoorU01
import Derived.ProofKit
import Derived.OpenShut
import Derived.Deep.Strs
import Derived.Lib.SmallJoins
import Derived.SizedLaws
import Derived.Test.YtbfdbbpkpjgamaaGreatDoorU03
import Derived.Test.YtbfdbbpkpjgamaaGreatDoorU41
section
set_option linter.unusedVariables false
namespace Go.Proofs.YtbfdbbpkpjgamaaGreatDoor
open Go.RowKit
theorem list_ofK {α : Type} : ∀ (n : Nat) (p : Nat → α → Prop), (∀ i, i < n → ∃ x, p i x) → ∃ l : List α, l.length = n ∧ ∀ i (h : i < l.length), p i l[i]
  | 0, _, _ => ⟨[], rfl, fun i h => by simp at h⟩
  | n + 1, p, hp => by
    obtain ⟨l, hl, h⟩ := list_ofK n p (fun i hi => hp i (by omega))
    obtain ⟨x, hx⟩ := hp n (by omega)
    refine ⟨l ++ [x], by simp [hl], fun i hi => ?_⟩
    by_cases hlt : i < l.length
    · rw [List.getElem_append_left hlt]
      exact h i hlt
    · have hi' : i = n := by simp at hi; omega
      subst hi'
      rw [List.getElem_append_right (by omega)]
      simpa using hx
theorem one_cellK {cs : List Value} {i : Nat} {v : Value} (h : (cs.drop i).take 1 = [v]) : cs[i]? = some v := by
  have := congrArg (·[0]?) h
  simpa using this
section
variable {H : Type} {enc : TypeId × Value → H} {P : Program} {W : World} {R : Nat}
theorem weightsAll_memK {e : TypeId} : ∀ {l : List (DataW H)} {d : DataW H}, d ∈ l → ∀ n ∈ d.weights P e, n ∈ DataW.weightsAll P e l
  | d' :: r, d, hd, n, hn => by
    simp only [DataW.weightsAll, List.mem_append]
    rcases List.mem_cons.1 hd with rfl | h
    · exact Or.inl hn
    · exact Or.inr (weightsAll_memK h n hn)
/-- A slice, one level of it. -/
theorem slK {t e : TypeId} {c : Nat} (ht : P.underlying t = some (.slice e)) (hc : P.cellsOf e = c) (hc0 : 0 < c) {fuel : Nat} {cs : List Value} {x : DataW H × List MemPlace} (h : DataW.trod enc P W 0 (fun _ => true) true fuel t cs = some x) (hlt : ∀ y ∈ x.2, y.block < W.heap.size) (hw : ∀ n ∈ x.1.weights P t, n ≤ R) :
    ∃ A len cap, cs = [.slice A len cap] ∧ len ≤ cap ∧ len * P.bytesOf e ≤ R ∧ ∀ i, i < len → ∃ g o cs' y n, A = some ⟨g, o, none⟩ ∧ g < W.heap.size ∧ fuel = n + 1 ∧ cs'.length = c ∧ (∀ j, j < c → W.cell? ⟨g, o + i * c + j, none⟩ = cs'[j]?) ∧ DataW.trod enc P W 0 (fun _ => true) true n e cs' = some y ∧ (∀ z ∈ y.2, z.block < W.heap.size) ∧ ∀ n ∈ y.1.weights P e, n ≤ R := by
  rcases DataW.trod_slice ht h with ⟨rfl, rfl⟩ | ⟨a, len, cap, elems, rest, n, rfl, rfl, rfl, _, hl, hm, hlen, hel, hsp, _⟩
  · exact ⟨none, 0, 0, rfl, Nat.le_refl _, by simp, fun i hi => by omega⟩
  · have h1 := hw ((elems.length + rest.length) * P.bytesOf e) (by simp [DataW.weights, ht])
    refine ⟨some a, len, cap, rfl, hl, by rw [← hlen]; exact Nat.le_trans (Nat.mul_le_mul_right _ (Nat.le_add_right _ _)) h1, fun i hi => ?_⟩
    · have key : ∀ i, i < len → ∃ cs' y, (W.cells? 0 (a.add (i * c)) c) = some cs' ∧ DataW.trod enc P W 0 (fun _ => true) true n e cs' = some y ∧ elems[i]? = some y := fun i hi => by
        have := hel i hi
        rw [hc, List.getElem?_eq_getElem (by omega)] at this
        obtain ⟨cs', a1, a2⟩ := Option.bind_eq_some_iff.1 this
        exact ⟨cs', _, a1, a2, List.getElem?_eq_getElem (by omega)⟩
      obtain ⟨cs0, y0, z1, _, _⟩ := key 0 (by omega)
      obtain ⟨cs', y, k1, k2, k3⟩ := key i hi
      obtain ⟨_, hl0, hcell0⟩ := World.cells?_some z1
      obtain ⟨_, hl1, hcell1⟩ := World.cells?_some k1
      obtain ⟨ab, ao, spot⟩ := a
      have hspot : spot = none := by
        have h0 := hcell0 0 hc0
        rw [List.getElem?_eq_getElem (by omega)] at h0
        simpa [Addr.add] using World.cell?_spot h0
      subst hspot
      have hmem := List.mem_of_getElem? k3
      refine ⟨ab, ao, cs', y, n, rfl, hlt (.cell ab ao) (List.mem_append_left _ (MemPlace.mem_row.2 ⟨0, ?_, by simp⟩)), rfl, hl1, fun j hj => ?_, k2, fun z hz => hlt z (List.mem_append_right _ (List.mem_flatMap.2 ⟨y, List.mem_append_left _ hmem, hz⟩)), fun m hm => hw m ?_⟩
      · rw [hc, hlen]
        exact Nat.mul_pos (by omega) hc0
      · have := hcell1 j hj
        simp only [Go.WideShapes.add_plain] at this
        exact this
      · simp only [DataW.weights, ht, List.mem_cons, List.mem_append]
        exact .inr (.inl (weightsAll_memK (List.mem_map.2 ⟨y, hmem, rfl⟩) m hm))
/-- A text's cell. -/
theorem stK {ts : TypeId} (hs : P.underlying ts = some .string) {fuel : Nat} {cs : List Value} {x : DataW H × List MemPlace} (h : DataW.trod enc P W 0 (fun _ => true) true fuel ts cs = some x) (hw : ∀ n ∈ x.1.weights P ts, n ≤ R) : ∃ l : List UInt8, cs = [.string ⟨l.toArray⟩] ∧ l.length ≤ R := by
  obtain ⟨s, e, q, _⟩ := DataW.trod_string hs h
  refine ⟨s.data.toList, by rw [e], hw _ ?_⟩
  rw [q]
  simp [DataW.weights]
theorem eachK : ∀ {ts : List TypeId} {ds : List (DataW H)} {k : Nat} {t : TypeId} {d : DataW H}, ts[k]? = some t → ds[k]? = some d → ∀ n ∈ d.weights P t, n ∈ DataW.weightsEach P ts ds
  | t0 :: ts, d0 :: ds, 0, t, d, h1, h2, n, hn => by
    simp only [List.getElem?_cons_zero, Option.some.injEq] at h1 h2
    subst h1
    subst h2
    simp only [DataW.weightsEach, List.mem_append]
    exact .inl hn
  | t0 :: ts, d0 :: ds, k + 1, t, d, h1, h2, n, hn => by
    simp only [List.getElem?_cons_succ] at h1 h2
    simp only [DataW.weightsEach, List.mem_append]
    exact .inr (eachK h1 h2 n hn)
  | [], _, k, _, _, h1, _, _, _ => by simp at h1
  | _ :: _, [], k, _, _, _, h2, _, _ => by simp at h2
/-- A struct's field, read. -/
theorem fldK {t : TypeId} {fs : Array Field} (ht : P.underlying t = some (.struct fs)) {fuel : Nat} {cs : List Value} {x : DataW H × List MemPlace} (h : DataW.trod enc P W 0 (fun _ => true) true fuel t cs = some x) (hlt : ∀ y ∈ x.2, y.block < W.heap.size) (hw : ∀ n ∈ x.1.weights P t, n ≤ R) :
    ∃ n, fuel = n + 1 ∧ cs.length = P.cellsOf t ∧ ∀ (i : Nat) (f : Field), fs[i]? = some f → ∃ y, DataW.trod enc P W 0 (fun _ => true) true n f.type ((cs.drop f.offset).take (P.cellsOf f.type)) = some y ∧ (∀ z ∈ y.2, z.block < W.heap.size) ∧ ∀ m ∈ y.1.weights P f.type, m ≤ R := by
  obtain ⟨xs, n, rfl, rfl, hl, hx, hf⟩ := DataW.trod_struct ht h
  refine ⟨n, rfl, hl, fun i f hi => ?_⟩
  have hil : i < xs.length := by
    rw [hx]
    exact (Array.getElem?_eq_some_iff.1 hi).1
  have h1 := hf i f hi
  rw [List.getElem?_eq_getElem hil] at h1
  refine ⟨xs[i], h1, fun z hz => hlt z (List.mem_flatMap.2 ⟨_, List.getElem_mem hil, hz⟩), fun m hm => hw m ?_⟩
  simp only [DataW.weights, ht]
  refine eachK (k := i) (t := f.type) ?_ ?_ m hm
  · simp [hi]
  · simp [hil]
end
end Go.Proofs.YtbfdbbpkpjgamaaGreatDoor

end
section
set_option linter.unusedVariables false
set_option linter.unusedSimpArgs false
namespace Go.Proofs.YtbfdbbpkpjgamaaGreatDoor
open Go.RowKit
theorem caInt : Tryz.prog.cellsOf 3 = 1 := by kernel_rfl
theorem caStr : Tryz.prog.cellsOf 9 = 1 := by kernel_rfl
theorem caMsgs : Tryz.prog.cellsOf 37 = 1 := by kernel_rfl
theorem caMsg : Tryz.prog.cellsOf 55 = 4 := by kernel_rfl
theorem caBox : Tryz.prog.cellsOf 39 = 5 := by kernel_rfl
theorem caBoxes : Tryz.prog.cellsOf 22 = 1 := by kernel_rfl
theorem caSub : Tryz.prog.cellsOf 69 = 2 := by kernel_rfl
theorem caSubs : Tryz.prog.cellsOf 23 = 1 := by kernel_rfl
theorem caItem : Tryz.prog.cellsOf 62 = 7 := by kernel_rfl
theorem caItems : Tryz.prog.cellsOf 24 = 1 := by kernel_rfl
theorem caInts : Tryz.prog.cellsOf 46 = 1 := by kernel_rfl
theorem caState : Tryz.prog.cellsOf 26 = 5 := by kernel_rfl
theorem byInt : Tryz.prog.bytesOf 3 = 8 := by kernel_rfl
theorem byMsg : Tryz.prog.bytesOf 55 = 40 := by kernel_rfl
theorem byBox : Tryz.prog.bytesOf 39 = 64 := by kernel_rfl
theorem bySub : Tryz.prog.bytesOf 69 = 24 := by kernel_rfl
theorem byItem : Tryz.prog.bytesOf 62 = 88 := by kernel_rfl
section
variable {H : Type} {enc : TypeId × Value → H} {W : World}
theorem openInts {fuel : Nat} {cs : List Value} {x : DataW H × List MemPlace} (h : DataW.trod enc Tryz.prog W 0 (fun _ => true) true fuel 46 cs = some x) (hlt : ∀ y ∈ x.2, y.block < W.heap.size) (hw : ∀ n ∈ x.1.weights Tryz.prog 46, n ≤ 140737488351232) :
    ∃ (A : Option Addr) (cap : Nat) (xs : List Int), cs = [.slice A xs.length cap] ∧ RdE 1 IntAt W (.slice A xs.length cap) xs ∧ xs.length ≤ cap ∧ xs.length ≤ 140737488355328 ∧ ∀ q ∈ xs, True := by
  obtain ⟨A, len, cap, rfl, k1, k2, k3⟩ := slK Tryz.underlying46 caInt (by omega) h hlt hw
  obtain ⟨ps, hpl, hps⟩ := list_ofK (α := Int) len (fun i q => (∃ g o, A = some ⟨g, o, none⟩ ∧ g < W.heap.size ∧ IntAt W g (o + i * 1) q) ∧ True) (fun i hi => by
    obtain ⟨g, o, cs1, y, n, eA, hg, _, hl1, hc1, ht1, hp1, hw1⟩ := k3 i hi
    obtain ⟨z, e, _, _⟩ := DataW.trod_int Tryz.underlying3 ht1
    refine ⟨z, ⟨g, o, eA, hg, ?_⟩, trivial⟩
    show W.cell? ⟨g, o + i * 1, none⟩ = _
    have := hc1 0 (by omega)
    rw [e] at this
    exact this)
  subst hpl
  refine ⟨A, cap, ps, rfl, ⟨A, cap, rfl, fun i hi => (hps i hi).1⟩, k1, by rw [byInt] at k2; omega, fun q hq => ?_⟩
  obtain ⟨i, hi, rfl⟩ := List.getElem_of_mem hq
  exact (hps i hi).2
theorem openMsgs {fuel : Nat} {cs : List Value} {x : DataW H × List MemPlace} (h : DataW.trod enc Tryz.prog W 0 (fun _ => true) true fuel 37 cs = some x) (hlt : ∀ y ∈ x.2, y.block < W.heap.size) (hw : ∀ n ∈ x.1.weights Tryz.prog 37, n ≤ 140737488351232) :
    ∃ (A : Option Addr) (cap : Nat) (xs : List Msg), cs = [.slice A xs.length cap] ∧ RdE 4 MsgAt W (.slice A xs.length cap) xs ∧ xs.length ≤ cap ∧ xs.length ≤ 140737488355328 ∧ ∀ q ∈ xs, q.body.length ≤ 140737488351232 := by
  obtain ⟨A, len, cap, rfl, k1, k2, k3⟩ := slK Tryz.underlying37 caMsg (by omega) h hlt hw
  obtain ⟨ps, hpl, hps⟩ := list_ofK (α := Msg) len (fun i q => (∃ g o, A = some ⟨g, o, none⟩ ∧ g < W.heap.size ∧ MsgAt W g (o + i * 4) q) ∧ q.body.length ≤ 140737488351232) (fun i hi => by
    obtain ⟨g, o, cs1, y, n, eA, hg, _, hl1, hc1, ht1, hp1, hw1⟩ := k3 i hi
    obtain ⟨n', _, _, hf⟩ := fldK Tryz.underlying55 ht1 hp1 hw1
    obtain ⟨y0, q0, p0, w0⟩ := hf 0 _ rfl
    simp only [List.getElem_toArray, List.getElem_cons_zero, List.getElem_cons_succ] at q0 w0
    obtain ⟨z0, e0, _, _⟩ := DataW.trod_int Tryz.underlying3 q0
    rw [caInt] at e0
    obtain ⟨y1, q1, p1, w1⟩ := hf 1 _ rfl
    simp only [List.getElem_toArray, List.getElem_cons_zero, List.getElem_cons_succ] at q1 w1
    obtain ⟨z1, e1, _, _⟩ := DataW.trod_int Tryz.underlying3 q1
    rw [caInt] at e1
    obtain ⟨y2, q2, p2, w2⟩ := hf 2 _ rfl
    simp only [List.getElem_toArray, List.getElem_cons_zero, List.getElem_cons_succ] at q2 w2
    obtain ⟨z2, e2, _, _⟩ := DataW.trod_int Tryz.underlying3 q2
    rw [caInt] at e2
    obtain ⟨y3, q3, p3, w3⟩ := hf 3 _ rfl
    simp only [List.getElem_toArray, List.getElem_cons_zero, List.getElem_cons_succ] at q3 w3
    obtain ⟨z3, e3, s3⟩ := stK Tryz.underlying9 q3 w3
    rw [caStr] at e3
    refine ⟨⟨z0, z1, z2, z3⟩, ⟨g, o, eA, hg, ⟨(hc1 0 (by omega)).trans (one_cellK e0), (hc1 1 (by omega)).trans (one_cellK e1), (hc1 2 (by omega)).trans (one_cellK e2), (hc1 3 (by omega)).trans (one_cellK e3)⟩⟩, s3⟩)
  subst hpl
  refine ⟨A, cap, ps, rfl, ⟨A, cap, rfl, fun i hi => (hps i hi).1⟩, k1, by rw [byMsg] at k2; omega, fun q hq => ?_⟩
  obtain ⟨i, hi, rfl⟩ := List.getElem_of_mem hq
  exact (hps i hi).2
theorem openSubs {fuel : Nat} {cs : List Value} {x : DataW H × List MemPlace} (h : DataW.trod enc Tryz.prog W 0 (fun _ => true) true fuel 23 cs = some x) (hlt : ∀ y ∈ x.2, y.block < W.heap.size) (hw : ∀ n ∈ x.1.weights Tryz.prog 23, n ≤ 140737488351232) :
    ∃ (A : Option Addr) (cap : Nat) (xs : List Sb), cs = [.slice A xs.length cap] ∧ RdE 2 SbAt W (.slice A xs.length cap) xs ∧ xs.length ≤ cap ∧ xs.length ≤ 140737488355328 ∧ ∀ q ∈ xs, q.name.length ≤ 140737488351232 := by
  obtain ⟨A, len, cap, rfl, k1, k2, k3⟩ := slK Tryz.underlying23 caSub (by omega) h hlt hw
  obtain ⟨ps, hpl, hps⟩ := list_ofK (α := Sb) len (fun i q => (∃ g o, A = some ⟨g, o, none⟩ ∧ g < W.heap.size ∧ SbAt W g (o + i * 2) q) ∧ q.name.length ≤ 140737488351232) (fun i hi => by
    obtain ⟨g, o, cs1, y, n, eA, hg, _, hl1, hc1, ht1, hp1, hw1⟩ := k3 i hi
    obtain ⟨n', _, _, hf⟩ := fldK Tryz.underlying69 ht1 hp1 hw1
    obtain ⟨y0, q0, p0, w0⟩ := hf 0 _ rfl
    simp only [List.getElem_toArray, List.getElem_cons_zero, List.getElem_cons_succ] at q0 w0
    obtain ⟨z0, e0, _, _⟩ := DataW.trod_int Tryz.underlying3 q0
    rw [caInt] at e0
    obtain ⟨y1, q1, p1, w1⟩ := hf 1 _ rfl
    simp only [List.getElem_toArray, List.getElem_cons_zero, List.getElem_cons_succ] at q1 w1
    obtain ⟨z1, e1, s1⟩ := stK Tryz.underlying9 q1 w1
    rw [caStr] at e1
    refine ⟨⟨z0, z1⟩, ⟨g, o, eA, hg, ⟨(hc1 0 (by omega)).trans (one_cellK e0), (hc1 1 (by omega)).trans (one_cellK e1)⟩⟩, s1⟩)
  subst hpl
  refine ⟨A, cap, ps, rfl, ⟨A, cap, rfl, fun i hi => (hps i hi).1⟩, k1, by rw [bySub] at k2; omega, fun q hq => ?_⟩
  obtain ⟨i, hi, rfl⟩ := List.getElem_of_mem hq
  exact (hps i hi).2
theorem openBoxes {fuel : Nat} {cs : List Value} {x : DataW H × List MemPlace} (h : DataW.trod enc Tryz.prog W 0 (fun _ => true) true fuel 22 cs = some x) (hlt : ∀ y ∈ x.2, y.block < W.heap.size) (hw : ∀ n ∈ x.1.weights Tryz.prog 22, n ≤ 140737488351232) :
    ∃ (A : Option Addr) (cap : Nat) (xs : List Bx), cs = [.slice A xs.length cap] ∧ RdE 5 BxAt W (.slice A xs.length cap) xs ∧ xs.length ≤ cap ∧ xs.length ≤ 140737488355328 ∧ ∀ q ∈ xs, (q.name.length ≤ 140737488351232 ∧ q.msgs.length ≤ 140737488355328 ∧ ∀ m ∈ q.msgs, m.body.length ≤ 140737488351232) := by
  obtain ⟨A, len, cap, rfl, k1, k2, k3⟩ := slK Tryz.underlying22 caBox (by omega) h hlt hw
  obtain ⟨ps, hpl, hps⟩ := list_ofK (α := Bx) len (fun i q => (∃ g o, A = some ⟨g, o, none⟩ ∧ g < W.heap.size ∧ BxAt W g (o + i * 5) q) ∧ (q.name.length ≤ 140737488351232 ∧ q.msgs.length ≤ 140737488355328 ∧ ∀ m ∈ q.msgs, m.body.length ≤ 140737488351232)) (fun i hi => by
    obtain ⟨g, o, cs1, y, n, eA, hg, _, hl1, hc1, ht1, hp1, hw1⟩ := k3 i hi
    obtain ⟨n', _, _, hf⟩ := fldK Tryz.underlying39 ht1 hp1 hw1
    obtain ⟨y0, q0, p0, w0⟩ := hf 0 _ rfl
    simp only [List.getElem_toArray, List.getElem_cons_zero, List.getElem_cons_succ] at q0 w0
    obtain ⟨z0, e0, _, _⟩ := DataW.trod_int Tryz.underlying3 q0
    rw [caInt] at e0
    obtain ⟨y1, q1, p1, w1⟩ := hf 1 _ rfl
    simp only [List.getElem_toArray, List.getElem_cons_zero, List.getElem_cons_succ] at q1 w1
    obtain ⟨z1, e1, s1⟩ := stK Tryz.underlying9 q1 w1
    rw [caStr] at e1
    obtain ⟨y2, q2, p2, w2⟩ := hf 2 _ rfl
    simp only [List.getElem_toArray, List.getElem_cons_zero, List.getElem_cons_succ] at q2 w2
    obtain ⟨z2, e2, _, _⟩ := DataW.trod_int Tryz.underlying3 q2
    rw [caInt] at e2
    obtain ⟨y3, q3, p3, w3⟩ := hf 3 _ rfl
    simp only [List.getElem_toArray, List.getElem_cons_zero, List.getElem_cons_succ] at q3 w3
    obtain ⟨z3, e3, _, _⟩ := DataW.trod_int Tryz.underlying3 q3
    rw [caInt] at e3
    obtain ⟨y4, q4, p4, w4⟩ := hf 4 _ rfl
    simp only [List.getElem_toArray, List.getElem_cons_zero, List.getElem_cons_succ] at q4 w4
    obtain ⟨A4, c4, z4, e4, r4, _, m4, b4⟩ := openMsgs q4 p4 w4
    rw [caMsgs] at e4
    refine ⟨⟨z0, z1, z2, z3, z4⟩, ⟨g, o, eA, hg, ⟨(hc1 0 (by omega)).trans (one_cellK e0), (hc1 1 (by omega)).trans (one_cellK e1), (hc1 2 (by omega)).trans (one_cellK e2), (hc1 3 (by omega)).trans (one_cellK e3), _, (hc1 4 (by omega)).trans (one_cellK e4), r4⟩⟩, s1, m4, b4⟩)
  subst hpl
  refine ⟨A, cap, ps, rfl, ⟨A, cap, rfl, fun i hi => (hps i hi).1⟩, k1, by rw [byBox] at k2; omega, fun q hq => ?_⟩
  obtain ⟨i, hi, rfl⟩ := List.getElem_of_mem hq
  exact (hps i hi).2
theorem openItems {fuel : Nat} {cs : List Value} {x : DataW H × List MemPlace} (h : DataW.trod enc Tryz.prog W 0 (fun _ => true) true fuel 24 cs = some x) (hlt : ∀ y ∈ x.2, y.block < W.heap.size) (hw : ∀ n ∈ x.1.weights Tryz.prog 24, n ≤ 140737488351232) :
    ∃ (A : Option Addr) (cap : Nat) (xs : List It), cs = [.slice A xs.length cap] ∧ RdE 7 ItAt W (.slice A xs.length cap) xs ∧ xs.length ≤ cap ∧ xs.length ≤ 140737488355328 ∧ ∀ q ∈ xs, (q.fr.length ≤ 140737488355328 ∧ q.frm.length ≤ 140737488351232 ∧ q.body.length ≤ 140737488351232) := by
  obtain ⟨A, len, cap, rfl, k1, k2, k3⟩ := slK Tryz.underlying24 caItem (by omega) h hlt hw
  obtain ⟨ps, hpl, hps⟩ := list_ofK (α := It) len (fun i q => (∃ g o, A = some ⟨g, o, none⟩ ∧ g < W.heap.size ∧ ItAt W g (o + i * 7) q) ∧ (q.fr.length ≤ 140737488355328 ∧ q.frm.length ≤ 140737488351232 ∧ q.body.length ≤ 140737488351232)) (fun i hi => by
    obtain ⟨g, o, cs1, y, n, eA, hg, _, hl1, hc1, ht1, hp1, hw1⟩ := k3 i hi
    obtain ⟨n', _, _, hf⟩ := fldK Tryz.underlying62 ht1 hp1 hw1
    obtain ⟨y0, q0, p0, w0⟩ := hf 0 _ rfl
    simp only [List.getElem_toArray, List.getElem_cons_zero, List.getElem_cons_succ] at q0 w0
    obtain ⟨z0, e0, _, _⟩ := DataW.trod_int Tryz.underlying3 q0
    rw [caInt] at e0
    obtain ⟨y1, q1, p1, w1⟩ := hf 1 _ rfl
    simp only [List.getElem_toArray, List.getElem_cons_zero, List.getElem_cons_succ] at q1 w1
    obtain ⟨z1, e1, s1⟩ := stK Tryz.underlying9 q1 w1
    rw [caStr] at e1
    obtain ⟨y2, q2, p2, w2⟩ := hf 2 _ rfl
    simp only [List.getElem_toArray, List.getElem_cons_zero, List.getElem_cons_succ] at q2 w2
    obtain ⟨A2, c2, z2, e2, r2, _, m2, b2⟩ := openInts q2 p2 w2
    rw [caInts] at e2
    obtain ⟨y3, q3, p3, w3⟩ := hf 3 _ rfl
    simp only [List.getElem_toArray, List.getElem_cons_zero, List.getElem_cons_succ] at q3 w3
    obtain ⟨z3, e3, _, _⟩ := DataW.trod_int Tryz.underlying3 q3
    rw [caInt] at e3
    obtain ⟨y4, q4, p4, w4⟩ := hf 4 _ rfl
    simp only [List.getElem_toArray, List.getElem_cons_zero, List.getElem_cons_succ] at q4 w4
    obtain ⟨z4, e4, _, _⟩ := DataW.trod_int Tryz.underlying3 q4
    rw [caInt] at e4
    obtain ⟨y5, q5, p5, w5⟩ := hf 5 _ rfl
    simp only [List.getElem_toArray, List.getElem_cons_zero, List.getElem_cons_succ] at q5 w5
    obtain ⟨z5, e5, _, _⟩ := DataW.trod_int Tryz.underlying3 q5
    rw [caInt] at e5
    obtain ⟨y6, q6, p6, w6⟩ := hf 6 _ rfl
    simp only [List.getElem_toArray, List.getElem_cons_zero, List.getElem_cons_succ] at q6 w6
    obtain ⟨z6, e6, s6⟩ := stK Tryz.underlying9 q6 w6
    rw [caStr] at e6
    refine ⟨⟨z0, z1, z2, z3, z4, z5, z6⟩, ⟨g, o, eA, hg, ⟨(hc1 0 (by omega)).trans (one_cellK e0), (hc1 1 (by omega)).trans (one_cellK e1), ⟨_, (hc1 2 (by omega)).trans (one_cellK e2), r2⟩, (hc1 3 (by omega)).trans (one_cellK e3), (hc1 4 (by omega)).trans (one_cellK e4), (hc1 5 (by omega)).trans (one_cellK e5), (hc1 6 (by omega)).trans (one_cellK e6)⟩⟩, m2, s1, s6⟩)
  subst hpl
  refine ⟨A, cap, ps, rfl, ⟨A, cap, rfl, fun i hi => (hps i hi).1⟩, k1, by rw [byItem] at k2; omega, fun q hq => ?_⟩
  obtain ⟨i, hi, rfl⟩ := List.getElem_of_mem hq
  exact (hps i hi).2
/-- A state's five cells. -/
theorem openState {fuel : Nat} {cs : List Value} {x : DataW H × List MemPlace} (h : DataW.trod enc Tryz.prog W 0 (fun _ => true) true fuel 26 cs = some x) (hlt : ∀ y ∈ x.2, y.block < W.heap.size) (hw : ∀ n ∈ x.1.weights Tryz.prog 26, n ≤ 140737488351232) :
    ∃ (A1 A2 A3 : Option Addr) (c1 c2 c3 : Nat) (s : Stt), cs = [.slice A1 s.boxes.length c1, .slice A2 s.subs.length c2, .slice A3 s.queue.length c3, .int .i64 s.nextValid, .int .i64 s.nextItem] ∧ StR W (.agg cs.toArray) s ∧ SzS s ∧ s.boxes.length ≤ c1 := by
  obtain ⟨n, rfl, hcl, hf⟩ := fldK Tryz.underlying26 h hlt hw
  rw [caState] at hcl
  obtain ⟨y0, q0, p0, w0⟩ := hf 0 _ rfl
  simp only [List.getElem_toArray, List.getElem_cons_zero, List.getElem_cons_succ] at q0 w0
  obtain ⟨y1, q1, p1, w1⟩ := hf 1 _ rfl
  simp only [List.getElem_toArray, List.getElem_cons_zero, List.getElem_cons_succ] at q1 w1
  obtain ⟨y2, q2, p2, w2⟩ := hf 2 _ rfl
  simp only [List.getElem_toArray, List.getElem_cons_zero, List.getElem_cons_succ] at q2 w2
  obtain ⟨y3, q3, p3, w3⟩ := hf 3 _ rfl
  simp only [List.getElem_toArray, List.getElem_cons_zero, List.getElem_cons_succ] at q3 w3
  obtain ⟨y4, q4, p4, w4⟩ := hf 4 _ rfl
  simp only [List.getElem_toArray, List.getElem_cons_zero, List.getElem_cons_succ] at q4 w4
  obtain ⟨A1, c1, bs, e0, r0, k0, _, b0⟩ := openBoxes q0 p0 w0
  obtain ⟨A2, c2, ss, e1, r1, _, _, b1⟩ := openSubs q1 p1 w1
  obtain ⟨A3, c3, qs, e2, r2, _, _, b2⟩ := openItems q2 p2 w2
  obtain ⟨z3, e3, _, _⟩ := DataW.trod_int Tryz.underlying3 q3
  obtain ⟨z4, e4, _, _⟩ := DataW.trod_int Tryz.underlying3 q4
  rw [caBoxes] at e0
  rw [caSubs] at e1
  rw [caItems] at e2
  rw [caInt] at e3 e4
  have hcs : cs = [.slice A1 bs.length c1, .slice A2 ss.length c2, .slice A3 qs.length c3, .int .i64 z3, .int .i64 z4] := by
    refine List.ext_getElem? (fun j => ?_)
    by_cases hj : j < 5
    · match j, hj with
      | 0, _ => exact one_cellK e0
      | 1, _ => exact one_cellK e1
      | 2, _ => exact one_cellK e2
      | 3, _ => exact one_cellK e3
      | 4, _ => exact one_cellK e4
    · rw [List.getElem?_eq_none (by omega), List.getElem?_eq_none (by simp; omega)]
  exact ⟨A1, A2, A3, c1, c2, c3, ⟨bs, ss, qs, z3, z4⟩, hcs, ⟨_, _, _, by rw [hcs], r0, r1, r2⟩, ⟨b0, b1, b2⟩, k0⟩
end
end Go.Proofs.YtbfdbbpkpjgamaaGreatDoor

end
section
set_option linter.unusedVariables false
set_option linter.unusedSimpArgs false
namespace Go.Proofs.YtbfdbbpkpjgamaaGreatDoor
open Go.RowKit
theorem caForms : Tryz.prog.cellsOf 28 = 12 := by kernel_rfl
theorem take_getK {α : Type} {cs : List α} {i k : Nat} {xs : List α} (h : (cs.drop i).take k = xs) (j : Nat) (hj : j < k) : cs[i + j]? = xs[j]? := by
  rw [← h, List.getElem?_take_of_lt hj, List.getElem?_drop]
section
variable {H : Type} {enc : TypeId × Value → H} {W : World}
theorem formsCells {fuel : Nat} {cs : List Value} {x : DataW H × List MemPlace} (h : DataW.trod enc Tryz.prog W 0 (fun _ => true) true fuel 28 cs = some x) (hlt : ∀ y ∈ x.2, y.block < W.heap.size) (hw : ∀ n ∈ x.1.weights Tryz.prog 28, n ≤ 140737488351232) :
    ∃ (A1 A2 A3 B1 B2 B3 : Option Addr) (c1 c2 c3 d1 d2 d3 : Nat) (s t : Stt) (u : Int) (n : List UInt8), cs = [.slice A1 s.boxes.length c1, .slice A2 s.subs.length c2, .slice A3 s.queue.length c3, .int .i64 s.nextValid, .int .i64 s.nextItem, .slice B1 t.boxes.length d1, .slice B2 t.subs.length d2, .slice B3 t.queue.length d3, .int .i64 t.nextValid, .int .i64 t.nextItem, .int .i64 u, .string ⟨n.toArray⟩] ∧
      StR W (.agg #[.slice A1 s.boxes.length c1, .slice A2 s.subs.length c2, .slice A3 s.queue.length c3, .int .i64 s.nextValid, .int .i64 s.nextItem]) s ∧ StR W (.agg #[.slice B1 t.boxes.length d1, .slice B2 t.subs.length d2, .slice B3 t.queue.length d3, .int .i64 t.nextValid, .int .i64 t.nextItem]) t ∧ SzS s ∧ SzS t ∧ s.boxes.length ≤ c1 := by
  obtain ⟨n, rfl, hcl, hf⟩ := fldK Tryz.underlying28 h hlt hw
  rw [caForms] at hcl
  obtain ⟨y0, q0, p0, w0⟩ := hf 0 _ rfl
  simp only [List.getElem_toArray, List.getElem_cons_zero, List.getElem_cons_succ] at q0 w0
  obtain ⟨y1, q1, p1, w1⟩ := hf 1 _ rfl
  simp only [List.getElem_toArray, List.getElem_cons_zero, List.getElem_cons_succ] at q1 w1
  obtain ⟨y2, q2, p2, w2⟩ := hf 2 _ rfl
  simp only [List.getElem_toArray, List.getElem_cons_zero, List.getElem_cons_succ] at q2 w2
  obtain ⟨y3, q3, p3, w3⟩ := hf 3 _ rfl
  simp only [List.getElem_toArray, List.getElem_cons_zero, List.getElem_cons_succ] at q3 w3
  obtain ⟨A1, A2, A3, c1, c2, c3, s, e0, r0, z0, k0⟩ := openState q0 p0 w0
  obtain ⟨B1, B2, B3, d1, d2, d3, t, e1, r1, z1, _⟩ := openState q1 p1 w1
  obtain ⟨u, e2, _, _⟩ := DataW.trod_int Tryz.underlying3 q2
  obtain ⟨nm, e3, _⟩ := stK Tryz.underlying9 q3 w3
  rw [caState] at e0 e1
  rw [caInt] at e2
  rw [caStr] at e3
  rw [caState, e0] at r0
  rw [caState, e1] at r1
  refine ⟨A1, A2, A3, B1, B2, B3, c1, c2, c3, d1, d2, d3, s, t, u, nm, ?_, r0, r1, z0, z1, k0⟩
  refine List.ext_getElem? (fun j => ?_)
  by_cases hj : j < 12
  · match j, hj with
    | 0, _ => exact take_getK e0 0 (by omega)
    | 1, _ => exact take_getK e0 1 (by omega)
    | 2, _ => exact take_getK e0 2 (by omega)
    | 3, _ => exact take_getK e0 3 (by omega)
    | 4, _ => exact take_getK e0 4 (by omega)
    | 5, _ => exact take_getK e1 0 (by omega)
    | 6, _ => exact take_getK e1 1 (by omega)
    | 7, _ => exact take_getK e1 2 (by omega)
    | 8, _ => exact take_getK e1 3 (by omega)
    | 9, _ => exact take_getK e1 4 (by omega)
    | 10, _ => exact take_getK e2 0 (by omega)
    | 11, _ => exact take_getK e3 0 (by omega)
  · rw [List.getElem?_eq_none (by omega), List.getElem?_eq_none (by simp; omega)]
end
set_option maxRecDepth 100000 in
theorem open_forms {H : Type} {enc : TypeId × Value → H} {W : World} {base : Nat} {v : Value} {d : DataW H} {p : List MemPlace} (hval : Value.okWide Tryz.prog W .any base 28 v) (h : DataW.Trod enc Tryz.prog W 0 (fun _ => true) true 28 v d p) (hlt : ∀ x ∈ p, x.block < W.heap.size) (hw : ∀ n ∈ d.weights Tryz.prog 28, n ≤ 140737488351232) :
    ∃ (A1 A2 A3 B1 B2 B3 : Option Addr) (c1 c2 c3 d1 d2 d3 : Nat) (s t : Stt) (u : Int) (n : List UInt8), v = .agg #[.slice A1 s.boxes.length c1, .slice A2 s.subs.length c2, .slice A3 s.queue.length c3, .int .i64 s.nextValid, .int .i64 s.nextItem, .slice B1 t.boxes.length d1, .slice B2 t.subs.length d2, .slice B3 t.queue.length d3, .int .i64 t.nextValid, .int .i64 t.nextItem, .int .i64 u, .string ⟨n.toArray⟩] ∧
      StR W (.agg #[.slice A1 s.boxes.length c1, .slice A2 s.subs.length c2, .slice A3 s.queue.length c3, .int .i64 s.nextValid, .int .i64 s.nextItem]) s ∧ StR W (.agg #[.slice B1 t.boxes.length d1, .slice B2 t.subs.length d2, .slice B3 t.queue.length d3, .int .i64 t.nextValid, .int .i64 t.nextItem]) t ∧ SzS s ∧ SzS t ∧ s.boxes.length ≤ c1 := by
  obtain ⟨cs, rfl, _⟩ := Go.WideShapes.okWide_struct Tryz.underlying28 hval
  obtain ⟨fuel, hf⟩ := h
  obtain ⟨A1, A2, A3, B1, B2, B3, c1, c2, c3, d1, d2, d3, s, t, u, n, e, r⟩ := formsCells hf hlt hw
  refine ⟨A1, A2, A3, B1, B2, B3, c1, c2, c3, d1, d2, d3, s, t, u, n, ?_, r⟩
  have e' : cs.toList = _ := e
  have := congrArg List.toArray e'
  simp only [Array.toArray_toList] at this
  rw [this]
end Go.Proofs.YtbfdbbpkpjgamaaGreatDoor

end
