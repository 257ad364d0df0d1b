/- A part that came in, opened, where its bulk is bounded: the sizes of its lists and texts, and its numbers. -/
import Derived.Test.YtegplihhbdmnbaaGreatDoorRows
import Derived.Test.YtegplihhbdmnbaaGreatDoorU41
import Derived.ProofKit
import Derived.OpenShut
import Derived.Deep.Strs
import Derived.Lib.SmallJoins
set_option linter.unusedVariables false
namespace Go.Proofs.YtegplihhbdmnbaaGreatDoor
open Go.RowKit
theorem list_ofU {α : Type} : ∀ (n : Nat) (p : Nat → α → Prop), (∀ i, i < n → ∃ x, p i x) → ∃ l : List α, l.length = n ∧ ∀ i (h : i < l.length), p i l[i]
  | 0, _, _ => ⟨[], rfl, fun i h => by simp at h⟩
  | n + 1, p, hp => by
    obtain ⟨l, hl, h⟩ := list_ofU n p (fun i hi => hp i (by omega))
    obtain ⟨x, hx⟩ := hp n (by omega)
    refine ⟨l ++ [x], by simp [hl], fun i hi => ?_⟩
    by_cases hlt : i < l.length
    · rw [List.getElem_append_left hlt]
      exact h i hlt
    · have hi' : i = n := by simp at hi; omega
      subst hi'
      rw [List.getElem_append_right (by omega)]
      simpa using hx
theorem one_cellU {cs : List Value} {i : Nat} {v : Value} (h : (cs.drop i).take 1 = [v]) : cs[i]? = some v := by
  have := congrArg (·[0]?) h
  simpa using this
theorem bulk_pos {H : Type} (d : DataW H) : 0 < Rows.uptoBulk d := by
  cases d <;> (try simp only [Rows.uptoBulk]) <;> (try omega)
  rename_i l
  cases l <;> simp [Rows.uptoBulk]
theorem bulk_in {H : Type} {d : DataW H} : ∀ {l : List (DataW H)}, d ∈ l → Rows.uptoBulk d ≤ Rows.uptoBulkAll l
  | x :: r, h => by
    rw [Rows.uptoBulkAll]
    rcases List.mem_cons.1 h with rfl | h
    · omega
    · have := bulk_in h
      omega
theorem bulk_many {H : Type} : ∀ (l : List (DataW H)), l.length ≤ Rows.uptoBulkAll l
  | [] => Nat.zero_le _
  | x :: r => by
    have := bulk_many r
    have := bulk_pos x
    rw [Rows.uptoBulkAll, List.length_cons]
    omega
theorem i64_top {z : Int} (h : (Lit.int .i64 z).wf = true) : z ≤ 9223372036854775807 := by
  simp [Lit.wf, IntKind.min, IntKind.max, IntKind.signed, IntKind.bits] at h
  omega
section
variable {H : Type} {enc : TypeId × Value → H} {P : Program} {W : World} {R : Nat}
/-- A slice, one level of it. -/
theorem slU {t e : TypeId} {c : Nat} (ht : P.underlying t = some (.slice e)) (hc : P.cellsOf e = c) (hc0 : 0 < c) {fuel : Nat} {cs : List Value} {x : DataW H × List MemPlace} (h : DataW.trod enc P W 0 (fun _ => true) true fuel t cs = some x) (hlt : ∀ y ∈ x.2, y.block < W.heap.size) (hw : Rows.uptoBulk x.1 ≤ R) :
    ∃ A len cap, cs = [.slice A len cap] ∧ len ≤ R ∧ len ≤ maxLen ∧ ∀ i, i < len → ∃ g o cs' y n, A = some ⟨g, o, none⟩ ∧ g < W.heap.size ∧ fuel = n + 1 ∧ cs'.length = c ∧ (∀ j, j < c → W.cell? ⟨g, o + i * c + j, none⟩ = cs'[j]?) ∧ DataW.trod enc P W 0 (fun _ => true) true n e cs' = some y ∧ (∀ z ∈ y.2, z.block < W.heap.size) ∧ Rows.uptoBulk y.1 ≤ R := by
  rcases DataW.trod_slice ht h with ⟨rfl, rfl⟩ | ⟨a, len, cap, elems, rest, n, rfl, rfl, rfl, _, hl, hm, hlen, hel, hsp, _⟩
  · exact ⟨none, 0, 0, rfl, Nat.zero_le _, Nat.zero_le _, fun i hi => by omega⟩
  · have h1 := bulk_many (elems.map (·.1))
    rw [List.length_map] at h1
    simp only [Rows.uptoBulk] at hw
    refine ⟨some a, len, cap, rfl, by omega, by omega, fun i hi => ?_⟩
    · have key : ∀ i, i < len → ∃ cs' y, (W.cells? 0 (a.add (i * c)) c) = some cs' ∧ DataW.trod enc P W 0 (fun _ => true) true n e cs' = some y ∧ elems[i]? = some y := fun i hi => by
        have := hel i hi
        rw [hc, List.getElem?_eq_getElem (by omega)] at this
        obtain ⟨cs', a1, a2⟩ := Option.bind_eq_some_iff.1 this
        exact ⟨cs', _, a1, a2, List.getElem?_eq_getElem (by omega)⟩
      obtain ⟨cs0, y0, z1, _, _⟩ := key 0 (by omega)
      obtain ⟨cs', y, k1, k2, k3⟩ := key i hi
      obtain ⟨_, hl0, hcell0⟩ := World.cells?_some z1
      obtain ⟨_, hl1, hcell1⟩ := World.cells?_some k1
      obtain ⟨ab, ao, spot⟩ := a
      have hspot : spot = none := by
        have h0 := hcell0 0 hc0
        rw [List.getElem?_eq_getElem (by omega)] at h0
        simpa [Addr.add] using World.cell?_spot h0
      subst hspot
      have hmem := List.mem_of_getElem? k3
      refine ⟨ab, ao, cs', y, n, rfl, hlt (.cell ab ao) (List.mem_append_left _ (MemPlace.mem_row.2 ⟨0, ?_, by simp⟩)), rfl, hl1, fun j hj => ?_, k2, fun z hz => hlt z (List.mem_append_right _ (List.mem_flatMap.2 ⟨y, List.mem_append_left _ hmem, hz⟩)), ?_⟩
      · rw [hc, hlen]
        exact Nat.mul_pos (by omega) hc0
      · have := hcell1 j hj
        simp only [Go.WideShapes.add_plain] at this
        exact this
      · have := bulk_in (List.mem_map.2 ⟨y, hmem, rfl⟩ : y.1 ∈ elems.map (·.1))
        omega
/-- A text's cell. -/
theorem stU {ts : TypeId} (hs : P.underlying ts = some .string) {fuel : Nat} {cs : List Value} {x : DataW H × List MemPlace} (h : DataW.trod enc P W 0 (fun _ => true) true fuel ts cs = some x) (hw : Rows.uptoBulk x.1 ≤ R) : ∃ l : List UInt8, cs = [.string ⟨l.toArray⟩] ∧ l.length ≤ R := by
  obtain ⟨s, e, q, _⟩ := DataW.trod_string hs h
  refine ⟨s.data.toList, by rw [e], ?_⟩
  rw [q] at hw
  simp only [Rows.uptoBulk] at hw
  omega
/-- A struct's field, read. -/
theorem flU {t : TypeId} {fs : Array Field} (ht : P.underlying t = some (.struct fs)) {fuel : Nat} {cs : List Value} {x : DataW H × List MemPlace} (h : DataW.trod enc P W 0 (fun _ => true) true fuel t cs = some x) (hlt : ∀ y ∈ x.2, y.block < W.heap.size) (hw : Rows.uptoBulk x.1 ≤ R) :
    ∃ n, fuel = n + 1 ∧ cs.length = P.cellsOf t ∧ ∀ (i : Nat) (f : Field), fs[i]? = some f → ∃ y, DataW.trod enc P W 0 (fun _ => true) true n f.type ((cs.drop f.offset).take (P.cellsOf f.type)) = some y ∧ (∀ z ∈ y.2, z.block < W.heap.size) ∧ Rows.uptoBulk y.1 ≤ R := by
  obtain ⟨xs, n, rfl, rfl, hl, hx, hf⟩ := DataW.trod_struct ht h
  refine ⟨n, rfl, hl, fun i f hi => ?_⟩
  have hil : i < xs.length := by
    rw [hx]
    exact (Array.getElem?_eq_some_iff.1 hi).1
  have h1 := hf i f hi
  rw [List.getElem?_eq_getElem hil] at h1
  refine ⟨xs[i], h1, fun z hz => hlt z (List.mem_flatMap.2 ⟨_, List.getElem_mem hil, hz⟩), ?_⟩
  have := bulk_in (List.mem_map.2 ⟨xs[i], List.getElem_mem hil, rfl⟩ : xs[i].1 ∈ xs.map (·.1))
  simp only [Rows.uptoBulk] at hw
  omega
/-- What is known of the types of parts. -/
theorem pmU {tl tm ts : TypeId} {m0 m1 : Field} (hl : P.underlying tl = some (.slice tm)) (hm : P.underlying tm = some (.struct #[m0, m1])) (hs : P.underlying ts = some .string) (cm : P.cellsOf tm = 2) (cs' : P.cellsOf ts = 1) (a0 : m0.type = ts) (b0 : m0.offset = 0) (a1 : m1.type = ts) (b1 : m1.offset = 1)
    {fuel : Nat} {cs : List Value} {x : DataW H × List MemPlace} (h : DataW.trod enc P W 0 (fun _ => true) true fuel tl cs = some x) (hlt : ∀ y ∈ x.2, y.block < W.heap.size) (hw : Rows.uptoBulk x.1 ≤ R) :
    ∃ (v : Value) (ps : List Pm), cs = [v] ∧ ReadS (fun g => 0 ≤ g) Pm.cs 2 W v ps ∧ ps.length ≤ R ∧ ps.length ≤ maxLen ∧ ∀ q ∈ ps, q.name.length ≤ R ∧ q.value.length ≤ R := by
  obtain ⟨A, len, cap, rfl, k1, k2, k3⟩ := slU hl cm (by omega) h hlt hw
  obtain ⟨ps, hpl, hps⟩ := list_ofU (α := Pm) len (fun i q => (∃ g o, A = some ⟨g, o, none⟩ ∧ g < W.heap.size ∧ ∀ j, j < 2 → W.cell? ⟨g, o + i * 2 + j, none⟩ = q.cs[j]?) ∧ q.name.length ≤ R ∧ q.value.length ≤ R) (fun i hi => by
    obtain ⟨g, o, cs1, y, n, e1, hg, _, hl1, hc1, ht1, hp1, hw1⟩ := k3 i hi
    obtain ⟨n', _, _, hf⟩ := flU hm ht1 hp1 hw1
    obtain ⟨y0, q0, _, w0⟩ := hf 0 m0 rfl
    obtain ⟨y1, q1, _, w1⟩ := hf 1 m1 rfl
    rw [a0, b0, cs'] at q0
    rw [a1, b1, cs'] at q1
    obtain ⟨l0, e0, n0⟩ := stU hs q0 w0
    obtain ⟨l1, e2, n1⟩ := stU hs q1 w1
    refine ⟨⟨l0, l1⟩, ⟨g, o, e1, hg, fun j hj => ?_⟩, n0, n1⟩
    rw [hc1 j hj]
    match j, hj with
    | 0, _ => exact one_cellU e0
    | 1, _ => exact one_cellU e2)
  subst hpl
  refine ⟨_, ps, rfl, ⟨A, cap, rfl, fun i hi => ?_⟩, k1, k2, fun q hq => ?_⟩
  · obtain ⟨g, o, e, hg, hc⟩ := (hps i hi).1
    exact ⟨g, o, e, Nat.zero_le _, hg, hc⟩
  · obtain ⟨i, hi, rfl⟩ := List.getElem_of_mem hq
    exact (hps i hi).2
theorem partU {tp tk tl tm ts ti : TypeId} {m0 m1 f0 f1 f2 f3 f4 f5 f6 f7 f8 f9 f10 : Field} (hp : P.underlying tp = some (.struct #[f0, f1, f2, f3, f4, f5, f6, f7, f8, f9, f10])) (hk : P.underlying tk = some (.slice tp)) (hl : P.underlying tl = some (.slice tm)) (hm : P.underlying tm = some (.struct #[m0, m1])) (hs : P.underlying ts = some .string) (hi : P.underlying ti = some (.int .i64))
    (cp : P.cellsOf tp = 11) (ck : P.cellsOf tk = 1) (cl : P.cellsOf tl = 1) (cm : P.cellsOf tm = 2) (cs' : P.cellsOf ts = 1) (ci : P.cellsOf ti = 1) (a0 : m0.type = ts) (b0 : m0.offset = 0) (a1 : m1.type = ts) (b1 : m1.offset = 1)
    (t0 : f0.type = ts) (o0 : f0.offset = 0) (t1 : f1.type = ts) (o1 : f1.offset = 1) (t2 : f2.type = tl) (o2 : f2.offset = 2) (t3 : f3.type = ts) (o3 : f3.offset = 3) (t4 : f4.type = ts) (o4 : f4.offset = 4) (t5 : f5.type = ts) (o5 : f5.offset = 5) (t6 : f6.type = ti) (o6 : f6.offset = 6) (t7 : f7.type = ti) (o7 : f7.offset = 7) (t8 : f8.type = ti) (o8 : f8.offset = 8) (t9 : f9.type = ti) (o9 : f9.offset = 9) (t10 : f10.type = tk) (o10 : f10.offset = 10) :
    ∀ (fuel : Nat) (cs : List Value) (x : DataW H × List MemPlace), DataW.trod enc P W 0 (fun _ => true) true fuel tp cs = some x → (∀ y ∈ x.2, y.block < W.heap.size) → Rows.uptoBulk x.1 ≤ 1048576 → ∃ p : Part, PA fuel (fun g => 0 ≤ g) W (.agg cs.toArray) p ∧ CntU p ∧ IntP p := by
  intro fuel
  induction fuel using Nat.strongRecOn with
  | ind fuel IH =>
    intro cs x h hlt hw
    obtain ⟨n, rfl, hcl, hf⟩ := flU hp h hlt hw
    rw [cp] at hcl
    obtain ⟨y0, q0, p0, w0⟩ := hf 0 f0 rfl
    rw [t0, o0, cs'] at q0
    obtain ⟨y1, q1, p1, w1⟩ := hf 1 f1 rfl
    rw [t1, o1, cs'] at q1
    obtain ⟨y2, q2, p2, w2⟩ := hf 2 f2 rfl
    rw [t2, o2, cl] at q2
    obtain ⟨y3, q3, p3, w3⟩ := hf 3 f3 rfl
    rw [t3, o3, cs'] at q3
    obtain ⟨y4, q4, p4, w4⟩ := hf 4 f4 rfl
    rw [t4, o4, cs'] at q4
    obtain ⟨y5, q5, p5, w5⟩ := hf 5 f5 rfl
    rw [t5, o5, cs'] at q5
    obtain ⟨y6, q6, p6, w6⟩ := hf 6 f6 rfl
    rw [t6, o6, ci] at q6
    obtain ⟨y7, q7, p7, w7⟩ := hf 7 f7 rfl
    rw [t7, o7, ci] at q7
    obtain ⟨y8, q8, p8, w8⟩ := hf 8 f8 rfl
    rw [t8, o8, ci] at q8
    obtain ⟨y9, q9, p9, w9⟩ := hf 9 f9 rfl
    rw [t9, o9, ci] at q9
    obtain ⟨y10, q10, p10, w10⟩ := hf 10 f10 rfl
    rw [t10, o10, ck] at q10
    obtain ⟨l0, e0, n0⟩ := stU hs q0 w0
    obtain ⟨l1, e1, n1⟩ := stU hs q1 w1
    obtain ⟨vp, ps, e2, hps, hpb, hpm, hpn⟩ := pmU hl hm hs cm cs' a0 b0 a1 b1 q2 p2 w2
    obtain ⟨l3, e3, n3⟩ := stU hs q3 w3
    obtain ⟨l4, e4, n4⟩ := stU hs q4 w4
    obtain ⟨l5, e5, n5⟩ := stU hs q5 w5
    obtain ⟨z6, e6, _, _⟩ := DataW.trod_int hi q6
    obtain ⟨z7, e7, _, _⟩ := DataW.trod_int hi q7
    obtain ⟨z8, e8, _, wf8⟩ := DataW.trod_int hi q8
    obtain ⟨z9, e9, _, wf9⟩ := DataW.trod_int hi q9
    obtain ⟨A, len, cap, e10, hkb, hkm, hkk⟩ := slU hk cp (by omega) q10 p10 w10
    have hcs : cs = [.string ⟨l0.toArray⟩, .string ⟨l1.toArray⟩, vp, .string ⟨l3.toArray⟩, .string ⟨l4.toArray⟩, .string ⟨l5.toArray⟩, .int .i64 z6, .int .i64 z7, .int .i64 z8, .int .i64 z9, .slice A len cap] := by
      refine List.ext_getElem? (fun j => ?_)
      by_cases hj : j < 11
      · match j, hj with
        | 0, _ => exact one_cellU e0
        | 1, _ => exact one_cellU e1
        | 2, _ => exact one_cellU e2
        | 3, _ => exact one_cellU e3
        | 4, _ => exact one_cellU e4
        | 5, _ => exact one_cellU e5
        | 6, _ => exact one_cellU e6
        | 7, _ => exact one_cellU e7
        | 8, _ => exact one_cellU e8
        | 9, _ => exact one_cellU e9
        | 10, _ => exact one_cellU e10
      · rw [List.getElem?_eq_none (by omega), List.getElem?_eq_none (by simp; omega)]
    obtain ⟨ks, hkl, hks⟩ := list_ofU (α := Part) len (fun i kid => (∃ g o vs, A = some ⟨g, o, none⟩ ∧ g < W.heap.size ∧ vs.size = 11 ∧ (∀ j, j < 11 → W.cell? ⟨g, o + i * 11 + j, none⟩ = vs[j]?) ∧ PA n (fun g => 0 ≤ g) W (.agg vs) kid) ∧ CntU kid ∧ IntP kid) (fun i hi' => by
      obtain ⟨g, o, cs1, y, n', e1, hg, hn', hl1, hc1, ht1, hp1, hw1⟩ := hkk i hi'
      obtain ⟨kid, c1, c2, c3⟩ := IH n' (by omega) cs1 y ht1 hp1 hw1
      exact ⟨kid, ⟨g, o, cs1.toArray, e1, hg, by simpa using hl1, fun j hj => by rw [hc1 j hj]; simp, c1.le (by omega)⟩, c2, c3⟩)
    subst hkl
    refine ⟨.mk ⟨l0, l1, ps, l3, l4, l5, z6, z7, z8, z9⟩ ks, ⟨vp, A, cap, by rw [hcs]; rfl, hps, fun i hi' => ?_⟩, ?_, ?_⟩
    · obtain ⟨g, o, vs, h1, h2, h3, h4, h5⟩ := (hks i hi').1
      exact ⟨g, o, vs, h1, Nat.zero_le _, h2, h3, h4, h5⟩
    · refine .mk _ _ hpb hkb n0 n1 n3 n4 n5 hpn (fun k hk' => ?_)
      obtain ⟨i, hi', rfl⟩ := List.getElem_of_mem hk'
      exact (hks i hi').2.1
    · refine .mk _ _ (i64_top wf8) (i64_top wf9) (fun k hk' => ?_)
      obtain ⟨i, hi', rfl⟩ := List.getElem_of_mem hk'
      exact (hks i hi').2.2
end
theorem puCells : Tryz.prog.cellsOf 40 = 11 := by kernel_rfl
theorem puKids : Tryz.prog.cellsOf 38 = 1 := by kernel_rfl
theorem puPars : Tryz.prog.cellsOf 37 = 1 := by kernel_rfl
theorem puPar : Tryz.prog.cellsOf 65 = 2 := by kernel_rfl
theorem puStr : Tryz.prog.cellsOf 9 = 1 := by kernel_rfl
theorem puInt : Tryz.prog.cellsOf 3 = 1 := by kernel_rfl
set_option maxRecDepth 100000 in
theorem open_partU {H : Type} {enc : TypeId × Value → H} {W : World} {base : Nat} {v : Value} {d : DataW H} {p : List MemPlace} (hval : Value.okWide Tryz.prog W .any base 40 v) (h : DataW.Trod enc Tryz.prog W 0 (fun _ => true) true 40 v d p) (hlt : ∀ x ∈ p, x.block < W.heap.size) (hw : Rows.uptoBulk d ≤ 1048576) : ∃ (n : Nat) (q : Part), PA n (fun g => 0 ≤ g) W v q ∧ CntU q ∧ IntP q := by
  obtain ⟨cs, rfl, _⟩ := Go.WideShapes.okWide_struct Tryz.underlying40 hval
  obtain ⟨fuel, hf⟩ := h
  obtain ⟨q, h1, h2, h3⟩ := partU Tryz.underlying40 Tryz.underlying38 Tryz.underlying37 Tryz.underlying65 Tryz.underlying9 Tryz.underlying3 puCells puKids puPars puPar puStr puInt rfl rfl rfl rfl rfl rfl rfl rfl rfl rfl rfl rfl rfl rfl rfl rfl rfl rfl rfl rfl rfl rfl rfl rfl rfl rfl fuel _ _ hf hlt hw
  exact ⟨fuel, q, h1, h2, h3⟩
end Go.Proofs.YtegplihhbdmnbaaGreatDoor
