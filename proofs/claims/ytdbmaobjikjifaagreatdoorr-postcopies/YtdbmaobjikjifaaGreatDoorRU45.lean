/- A slice that came in, of cells of one kind: what is read of it. -/
/- A span as an argument: three numbers, opened and shut. -/
/- Slices of texts and of bools that came in. -/
import Derived.Test.YtdbmaobjikjifaaGreatDoorRU03
import Derived.Test.YtdbmaobjikjifaaGreatDoorRProg
import Derived.OpenShut
import Derived.Carry
import Derived.WideShapes
import Derived.ProofKit
import Derived.Deep.Strs
section
namespace Go.Proofs.YtdbmaobjikjifaaGreatDoorR
open Go.RowKit

/-- The slice v reads as cs. -/
def AR (w : World) (v : Value) (cs : List Value) : Prop := ∃ A cap, v = .slice A cs.length cap ∧ cs.length ≤ cap ∧ cap ≤ maxLen ∧ (A = none → cap = 0) ∧
  (cs ≠ [] → ∃ g o, A = some ⟨g, o, none⟩ ∧ g < w.heap.size ∧ ∀ j u, cs[j]? = some u → w.cell? ⟨g, o + j, none⟩ = some u)
section
variable {w w' : World} {v : Value} {cs : List Value}
theorem AR.keep {S : Nat → Prop} (h : AR w v cs) (hm : Mvs S w w') (hS : ∀ A n c, v = .slice (some A) n c → ¬ S A.block) : AR w' v cs := by
  obtain ⟨A, cap, rfl, h1, h2, h3, h4⟩ := h
  refine ⟨A, cap, rfl, h1, h2, h3, fun hc => ?_⟩
  obtain ⟨g, o, rfl, hg, h5⟩ := h4 hc
  refine ⟨g, o, rfl, Nat.lt_of_lt_of_le hg hm.size, fun j u hu => ?_⟩
  rw [hm.cell (a := ⟨g, o + j, none⟩) hg (hS ⟨g, o, none⟩ _ _ rfl)]
  exact h5 j u hu
theorem AR.below (h : AR w v cs) (hb : Below w.heap.size w w') : AR w' v cs := h.keep (S := fun _ => False) (Mvs.of_below hb) (fun _ _ _ _ c => c)
theorem AR.src {P : Program} {t e : TypeId} (ht : P.underlying t = some (.slice e)) (h : AR w v cs) (h1 : ∀ u ∈ cs, u.oneCell' = true) : Src P 1 t v cs.length cs w := by
  obtain ⟨A, cap, rfl, hl, hm, hn, h4⟩ := h
  by_cases hc : cs = []
  · subst hc
    cases A with
    | none => exact Src.ofNil w ht cap
    | some a => exact Src.ofSlice w ht a 0 cap [] rfl (fun j u hu => by cases hu) h1
  · obtain ⟨g, o, rfl, hg, h5⟩ := h4 hc
    exact Src.ofSlice w ht ⟨g, o, none⟩ cs.length cap cs (by simp) (fun j u hu => by rw [Go.WideShapes.add_plain]; exact h5 j u hu) h1
/-- A stretch of it. -/
theorem AR.mid {P : Program} {t e : TypeId} (ht : P.underlying t = some (.slice e)) {a : Addr} {n cap i k : Nat} (h : AR w (.slice (some a) n cap) cs) (h1 : ∀ u ∈ cs, u.oneCell' = true) (hik : i ≤ k) (hk : k ≤ cs.length) (d : Addr) (hd : i < cap → d = a.add i) :
    Src P 1 t (.slice (some d) (k - i) (cap - i)) (k - i) ((cs.drop i).take (k - i)) w := by
  obtain ⟨A, cap', hv, hl, hm, hn, h4⟩ := h
  simp only [Value.slice.injEq] at hv
  obtain ⟨rfl, rfl, rfl⟩ := hv
  refine Src.ofSlice w ht d (k - i) (cap - i) _ (by simp; omega) (fun j u hu => ?_) (fun u hu => h1 u (List.mem_of_mem_drop (List.mem_of_mem_take hu)))
  have hj := (List.getElem?_eq_some_iff.1 hu).1
  simp only [List.length_take, List.length_drop] at hj
  rw [List.getElem?_take_of_lt (by omega), List.getElem?_drop] at hu
  have hc : cs ≠ [] := fun e => by rw [e] at hk; simp at hk; omega
  obtain ⟨g, o, hA, hg, h5⟩ := h4 hc
  cases hA
  rw [hd (by omega), Go.WideShapes.add_plain, Go.WideShapes.add_plain, Nat.add_assoc]
  exact h5 _ u hu
end
section
variable {H : Type} {enc : TypeId × Value → H}
/-- A slice of numbers, opened. -/
theorem open_row_ints {P : Program} {t e : TypeId} {k : IntKind} (ht : P.underlying t = some (.slice e)) (he : P.underlying e = some (.int k)) (hc : P.cellsOf e = 1) {W : World} {base : Nat} {v : Value} {d : DataW H} {p : List MemPlace}
    (hval : Value.okWide P W .any base t v) (h : DataW.Trod enc P W 0 (fun _ => true) true t v d p) (hlt : ∀ x ∈ p, x.block < W.heap.size) : ∃ zs : List Int, AR W v (zs.map (Value.int k)) ∧ ∀ z ∈ zs, (Lit.int k z).wf = true := by
  obtain ⟨a1, len, cap, rfl⟩ := Go.WideShapes.okWide_slice ht hval
  obtain ⟨fuel, hf⟩ := h
  rcases Go.ChangeShapes.open_ints ht he hc hf with ⟨hcs, hx⟩ | ⟨a, len', cap', zs, hcs, _, hl, hm, hz, hx, hcell, hwz⟩
  · simp [Value.cells] at hcs
    obtain ⟨rfl, rfl, rfl⟩ := hcs
    exact ⟨[], ⟨none, 0, rfl, Nat.le_refl _, Nat.zero_le _, fun _ => rfl, fun h => absurd rfl h⟩, fun _ h => by cases h⟩
  · simp [Value.cells] at hcs
    obtain ⟨rfl, rfl, rfl⟩ := hcs
    simp only [Prod.mk.injEq] at hx
    obtain ⟨rfl, rfl⟩ := hx
    simp only [if_true] at hz
    have hlen : ((zs.take len).map (Value.int k)).length = len := by simp; omega
    refine ⟨zs.take len, ⟨some a, cap, by rw [hlen], by omega, hm, (fun h => by simp at h), fun hne => ?_⟩, fun z hz' => hwz z (List.mem_of_mem_take hz')⟩
    have hpos : 0 < len := by
      rcases Nat.eq_zero_or_pos len with h0 | h0
      · subst h0; simp at hne
      · exact h0
    obtain ⟨ab, ao, spot⟩ := a
    have hspot : spot = none := by simpa [Addr.add] using World.cell?_spot (hcell 0 (by omega))
    subst hspot
    refine ⟨ab, ao, rfl, hlt (.cell ab ao) (MemPlace.mem_row.2 ⟨0, by omega, by simp⟩), fun j u hu => ?_⟩
    have hj := (List.getElem?_eq_some_iff.1 hu).1
    rw [hlen] at hj
    have := hcell j (by omega)
    rw [Go.WideShapes.add_plain] at this
    rw [this, ← hu]
    simp [List.getElem?_take_of_lt hj, List.getD_eq_getElem?_getD, List.getElem?_eq_getElem (show j < zs.length by omega)]
end
end Go.Proofs.YtdbmaobjikjifaaGreatDoorR

end
section
namespace Go.Proofs.YtdbmaobjikjifaaGreatDoorR
open Go.ChangeShapes Go.WideShapes Go.ChangeAt Go.RowKit

theorem array3 {α : Type} {cs : Array α} (h : cs.size = 3) : ∃ c0 c1 c2, cs = #[c0, c1, c2] := by
  obtain ⟨l⟩ := cs
  match l, h with
  | [c0, c1, c2], _ => exact ⟨c0, c1, c2, rfl⟩
theorem list3 {α : Type} {l : List α} (h : l.length = 3) : ∃ c0 c1 c2, l = [c0, c1, c2] := by
  match l, h with
  | [c0, c1, c2], _ => exact ⟨c0, c1, c2, rfl⟩
theorem intCells3 : Tryz.prog.cellsOf 3 = 1 := by kernel_rfl

section
variable {P : Program} {T ti : TypeId} {f0 f1 f2 : Field} {H : Type} {enc : TypeId × Value → H} {w : World} {base : Nat} {spare : Nat → Bool} {held : Bool}
theorem open_three {r : Reach} {b0 : Nat} {v : Value} {d : DataW H} {p : List MemPlace} (hs : P.underlying T = some (.struct #[f0, f1, f2])) (hi : P.underlying ti = some (.int .i64)) (hC : P.cellsOf T = 3) (hc : P.cellsOf ti = 1) (t0 : f0.type = ti) (o0 : f0.offset = 0) (t1 : f1.type = ti) (o1 : f1.offset = 1) (t2 : f2.type = ti) (o2 : f2.offset = 2) (hv : Value.okWide P w r b0 T v) (h : DataW.Trod enc P w base spare held T v d p) :
    ∃ y m k : Int, v = .agg #[.int .i64 y, .int .i64 m, .int .i64 k] ∧ d = .agg [.lit (.int .i64 y), .lit (.int .i64 m), .lit (.int .i64 k)] ∧ p = [] ∧
      Lit.wf (.int .i64 y) = true ∧ Lit.wf (.int .i64 m) = true ∧ Lit.wf (.int .i64 k) = true := by
  obtain ⟨cs, rfl, hsz⟩ := okWide_struct hs hv
  obtain ⟨c0, c1, c2, rfl⟩ := array3 (hsz.trans hC)
  obtain ⟨fuel, hf⟩ := h
  obtain ⟨xs, n, _, hx, hl, hlen, hfs⟩ := DataW.trod_struct hs hf
  obtain ⟨y0, y1, y2, rfl⟩ := list3 hlen
  have g0 := hfs 0 f0 rfl
  have g1 := hfs 1 f1 rfl
  have g2 := hfs 2 f2 rfl
  simp only [t0, t1, t2, o0, o1, o2, hc] at g0 g1 g2
  obtain ⟨z0, e0, e0', w0⟩ := DataW.trod_int hi g0
  obtain ⟨z1, e1, e1', w1⟩ := DataW.trod_int hi g1
  obtain ⟨z2, e2, e2', w2⟩ := DataW.trod_int hi g2
  simp [Value.cells] at e0 e1 e2
  subst e0 e1 e2 e0' e1' e2'
  simp only [Prod.mk.injEq] at hx
  exact ⟨z0, z1, z2, rfl, hx.1, hx.2, w0, w1, w2⟩
theorem shut_three {y m k : Int} (hs : P.underlying T = some (.struct #[f0, f1, f2])) (hi : P.underlying ti = some (.int .i64)) (hC : P.cellsOf T = 3) (hc : P.cellsOf ti = 1) (t0 : f0.type = ti) (o0 : f0.offset = 0) (t1 : f1.type = ti) (o1 : f1.offset = 1) (t2 : f2.type = ti) (o2 : f2.offset = 2) (w0 : Lit.wf (.int .i64 y) = true) (w1 : Lit.wf (.int .i64 m) = true) (w2 : Lit.wf (.int .i64 k) = true) :
    DataW.Trod enc P w base spare held T (.agg #[.int .i64 y, .int .i64 m, .int .i64 k]) (.agg [.lit (.int .i64 y), .lit (.int .i64 m), .lit (.int .i64 k)]) [] := by
  have one : ∀ x : Int, Lit.wf (.int .i64 x) = true → DataW.trod enc P w base spare held 1 ti [.int .i64 x] = some (.lit (.int .i64 x), []) := fun x hx => by
    simp [DataW.trod, hi, hx]
  have := trod_struct_mk (enc := enc) (w := w) (base := base) (spare := spare) (held := held) (n := 1) (cs := [.int .i64 y, .int .i64 m, .int .i64 k])
    (xs := [(.lit (.int .i64 y), []), (.lit (.int .i64 m), []), (.lit (.int .i64 k), [])]) hs (by simp [hC])
    (by simp [hc, t0, t1, t2, o0, o1, o2, one y w0, one m w1, one k w2])
  exact ⟨_, by simpa [Value.cells] using this⟩
end
section
variable {H : Type} {enc : TypeId × Value → H} {w : World} {base : Nat} {spare : Nat → Bool} {held : Bool}
end
theorem len_of (x : ByteArray) (h : x.size ≤ maxLen) : x.data.toList.length ≤ maxLen := by
  rw [Array.length_toList]; exact h
end Go.Proofs.YtdbmaobjikjifaaGreatDoorR

end
section
namespace Go.Proofs.YtdbmaobjikjifaaGreatDoorR
open Go.RowKit
theorem list_of {α : Type} : ∀ (n : Nat) (p : Nat → α → Prop), (∀ i, i < n → ∃ x, p i x) → ∃ l : List α, l.length = n ∧ ∀ i (h : i < l.length), p i l[i]
  | 0, _, _ => ⟨[], rfl, fun i h => by simp at h⟩
  | n + 1, p, hp => by
    obtain ⟨l, hl, h⟩ := list_of n p (fun i hi => hp i (by omega))
    obtain ⟨x, hx⟩ := hp n (by omega)
    refine ⟨l ++ [x], by simp [hl], fun i hi => ?_⟩
    by_cases hlt : i < l.length
    · rw [List.getElem_append_left hlt]
      exact h i hlt
    · have hi' : i = n := by simp at hi; omega
      subst hi'
      rw [List.getElem_append_right (by omega)]
      simpa using hx
section
variable {H : Type} {enc : TypeId × Value → H} {P : Program} {W : World} {α : Type}
/-- A slice whose elements are of one cell each. -/
theorem open_ones {t e : TypeId} (f : α → Value) (Q : α → Prop) (ht : P.underlying t = some (.slice e)) (ce : P.cellsOf e = 1) (hop : ∀ fuel cs x, DataW.trod enc P W 0 (fun _ => true) true fuel e cs = some x → ∃ z, cs = [f z] ∧ Q z) {base : Nat} {v : Value} {d : DataW H} {p : List MemPlace}
    (hval : Value.okWide P W .any base t v) (h : DataW.Trod enc P W 0 (fun _ => true) true t v d p) (hlt : ∀ x ∈ p, x.block < W.heap.size) : ∃ xs : List α, AR W v (xs.map f) ∧ ∀ z ∈ xs, Q z := by
  obtain ⟨a1, len, cap, rfl⟩ := Go.WideShapes.okWide_slice ht hval
  obtain ⟨fuel, hf⟩ := h
  rcases Go.Deep.open_slice ht hf with ⟨hcs, hx⟩ | ⟨a, len', cap', m, n, D, Pl, hcs, _, hl, hm, hmm, hx, hel⟩
  · simp [Value.cells] at hcs
    obtain ⟨rfl, rfl, rfl⟩ := hcs
    exact ⟨[], ⟨none, 0, rfl, Nat.le_refl _, Nat.zero_le _, fun _ => rfl, fun h => absurd rfl h⟩, fun p hp => by cases hp⟩
  · simp [Value.cells] at hcs
    obtain ⟨rfl, rfl, rfl⟩ := hcs
    simp only [Prod.mk.injEq] at hx
    obtain ⟨rfl, rfl⟩ := hx
    simp only [if_true] at hmm
    subst hmm
    rw [ce] at hel hlt
    obtain ⟨ss, hsl, hss⟩ := list_of (α := α) len (fun i z => W.cell? (a.add (i * 1)) = some (f z) ∧ Q z) (fun i hi' => by
      obtain ⟨cs', h1, h2⟩ := hel i (by omega)
      obtain ⟨_, hlen, hcell⟩ := World.cells?_some h1
      obtain ⟨z, e2, hq⟩ := hop _ _ _ h2
      refine ⟨z, ?_, hq⟩
      have := hcell 0 (by omega)
      rw [e2] at this
      simpa [Addr.add] using this)
    subst hsl
    refine ⟨ss, ⟨some a, _, by rw [List.length_map], by rw [List.length_map]; exact hl, hm, (fun h => by simp at h), fun hne => ?_⟩, fun p hp => ?_⟩
    · have hpos : 0 < ss.length := by
        rcases Nat.eq_zero_or_pos ss.length with h0 | h0
        · rw [List.length_eq_zero_iff.1 h0] at hne
          exact (hne rfl).elim
        · exact h0
      obtain ⟨ab, ao, spot⟩ := a
      have hspot : spot = none := by simpa [Addr.add] using World.cell?_spot (hss 0 hpos).1
      subst hspot
      refine ⟨ab, ao, rfl, hlt (.cell ab ao) (List.mem_append_left _ (MemPlace.mem_row.2 ⟨0, by omega, by simp⟩)), fun j u hu => ?_⟩
      have hj : j < ss.length := by have := (List.getElem?_eq_some_iff.1 hu).1; rwa [List.length_map] at this
      rw [List.getElem?_map, List.getElem?_eq_getElem hj] at hu
      have := (hss j hj).1
      simp only [Go.WideShapes.add_plain, Nat.mul_one] at this
      rw [this, ← hu]
      rfl
    · obtain ⟨i, hi, rfl⟩ := List.mem_iff_getElem.1 hp
      exact (hss i hi).2
end
theorem strCells1 : Tryz.prog.cellsOf 9 = 1 := by kernel_rfl
theorem boolCells1 : Tryz.prog.cellsOf 4 = 1 := by kernel_rfl
/-- A text as a value. -/
def tv (l : List UInt8) : Value := .string ⟨l.toArray⟩
set_option maxRecDepth 100000 in
theorem open_strs {H : Type} {enc : TypeId × Value → H} {W : World} {base : Nat} {v : Value} {d : DataW H} {p : List MemPlace} (hval : Value.okWide Tryz.prog W .any base 51 v) (h : DataW.Trod enc Tryz.prog W 0 (fun _ => true) true 51 v d p) (hlt : ∀ x ∈ p, x.block < W.heap.size) : ∃ xs : List (List UInt8), AR W v (xs.map tv) ∧ ∀ x ∈ xs, x.length ≤ maxLen :=
  open_ones tv (fun x => x.length ≤ maxLen) Tryz.underlying51 strCells1 (fun fuel cs x hx => by
    obtain ⟨s, h1, _, h3⟩ := DataW.trod_string Tryz.underlying9 hx
    exact ⟨s.data.toList, by rw [h1]; rfl, by rw [Array.length_toList]; exact h3⟩) hval h hlt
set_option maxRecDepth 100000 in
theorem open_bools {H : Type} {enc : TypeId × Value → H} {W : World} {base : Nat} {v : Value} {d : DataW H} {p : List MemPlace} (hval : Value.okWide Tryz.prog W .any base 52 v) (h : DataW.Trod enc Tryz.prog W 0 (fun _ => true) true 52 v d p) (hlt : ∀ x ∈ p, x.block < W.heap.size) : ∃ xs : List Bool, AR W v (xs.map Value.bool) ∧ ∀ x ∈ xs, True :=
  open_ones Value.bool (fun _ => True) Tryz.underlying52 boolCells1 (fun fuel cs x hx => by
    obtain ⟨b, h1, _⟩ := DataW.trod_bool Tryz.underlying4 hx
    exact ⟨b, h1, trivial⟩) hval h hlt
end Go.Proofs.YtdbmaobjikjifaaGreatDoorR

end
