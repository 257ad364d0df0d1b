/- A slice that came in, of cells of one kind: what is read of it. -/
import Derived.Test.YtbjencibkkhbhaaGreatDoorOwn
import Derived.Test.YtbjencibkkhbhaaGreatDoorProg
import Derived.OpenShut
import Derived.Carry
import Derived.WideShapes
namespace Go.Proofs.YtbjencibkkhbhaaGreatDoor
open Go.RowKit

/-- The slice v reads as cs. -/
def AR (w : World) (v : Value) (cs : List Value) : Prop := ∃ A cap, v = .slice A cs.length cap ∧ cs.length ≤ cap ∧ cap ≤ maxLen ∧ (A = none → cap = 0) ∧
  (cs ≠ [] → ∃ g o, A = some ⟨g, o, none⟩ ∧ g < w.heap.size ∧ ∀ j u, cs[j]? = some u → w.cell? ⟨g, o + j, none⟩ = some u)
section
variable {w w' : World} {v : Value} {cs : List Value}
theorem AR.keep {S : Nat → Prop} (h : AR w v cs) (hm : Mvs S w w') (hS : ∀ A n c, v = .slice (some A) n c → ¬ S A.block) : AR w' v cs := by
  obtain ⟨A, cap, rfl, h1, h2, h3, h4⟩ := h
  refine ⟨A, cap, rfl, h1, h2, h3, fun hc => ?_⟩
  obtain ⟨g, o, rfl, hg, h5⟩ := h4 hc
  refine ⟨g, o, rfl, Nat.lt_of_lt_of_le hg hm.size, fun j u hu => ?_⟩
  rw [hm.cell (a := ⟨g, o + j, none⟩) hg (hS ⟨g, o, none⟩ _ _ rfl)]
  exact h5 j u hu
theorem AR.below (h : AR w v cs) (hb : Below w.heap.size w w') : AR w' v cs := h.keep (S := fun _ => False) (Mvs.of_below hb) (fun _ _ _ _ c => c)
theorem AR.src {P : Program} {t e : TypeId} (ht : P.underlying t = some (.slice e)) (h : AR w v cs) (h1 : ∀ u ∈ cs, u.oneCell' = true) : Src P 1 t v cs.length cs w := by
  obtain ⟨A, cap, rfl, hl, hm, hn, h4⟩ := h
  by_cases hc : cs = []
  · subst hc
    cases A with
    | none => exact Src.ofNil w ht cap
    | some a => exact Src.ofSlice w ht a 0 cap [] rfl (fun j u hu => by cases hu) h1
  · obtain ⟨g, o, rfl, hg, h5⟩ := h4 hc
    exact Src.ofSlice w ht ⟨g, o, none⟩ cs.length cap cs (by simp) (fun j u hu => by rw [Go.WideShapes.add_plain]; exact h5 j u hu) h1
/-- A stretch of it. -/
theorem AR.mid {P : Program} {t e : TypeId} (ht : P.underlying t = some (.slice e)) {a : Addr} {n cap i k : Nat} (h : AR w (.slice (some a) n cap) cs) (h1 : ∀ u ∈ cs, u.oneCell' = true) (hik : i ≤ k) (hk : k ≤ cs.length) (d : Addr) (hd : i < cap → d = a.add i) :
    Src P 1 t (.slice (some d) (k - i) (cap - i)) (k - i) ((cs.drop i).take (k - i)) w := by
  obtain ⟨A, cap', hv, hl, hm, hn, h4⟩ := h
  simp only [Value.slice.injEq] at hv
  obtain ⟨rfl, rfl, rfl⟩ := hv
  refine Src.ofSlice w ht d (k - i) (cap - i) _ (by simp; omega) (fun j u hu => ?_) (fun u hu => h1 u (List.mem_of_mem_drop (List.mem_of_mem_take hu)))
  have hj := (List.getElem?_eq_some_iff.1 hu).1
  simp only [List.length_take, List.length_drop] at hj
  rw [List.getElem?_take_of_lt (by omega), List.getElem?_drop] at hu
  have hc : cs ≠ [] := fun e => by rw [e] at hk; simp at hk; omega
  obtain ⟨g, o, hA, hg, h5⟩ := h4 hc
  cases hA
  rw [hd (by omega), Go.WideShapes.add_plain, Go.WideShapes.add_plain, Nat.add_assoc]
  exact h5 _ u hu
end
section
variable {H : Type} {enc : TypeId × Value → H}
/-- A slice of numbers, opened. -/
theorem open_row_ints {P : Program} {t e : TypeId} {k : IntKind} (ht : P.underlying t = some (.slice e)) (he : P.underlying e = some (.int k)) (hc : P.cellsOf e = 1) {W : World} {base : Nat} {v : Value} {d : DataW H} {p : List MemPlace}
    (hval : Value.okWide P W .any base t v) (h : DataW.Trod enc P W 0 (fun _ => true) true t v d p) (hlt : ∀ x ∈ p, x.block < W.heap.size) : ∃ zs : List Int, AR W v (zs.map (Value.int k)) ∧ ∀ z ∈ zs, (Lit.int k z).wf = true := by
  obtain ⟨a1, len, cap, rfl⟩ := Go.WideShapes.okWide_slice ht hval
  obtain ⟨fuel, hf⟩ := h
  rcases Go.ChangeShapes.open_ints ht he hc hf with ⟨hcs, hx⟩ | ⟨a, len', cap', zs, hcs, _, hl, hm, hz, hx, hcell, hwz⟩
  · simp [Value.cells] at hcs
    obtain ⟨rfl, rfl, rfl⟩ := hcs
    exact ⟨[], ⟨none, 0, rfl, Nat.le_refl _, Nat.zero_le _, fun _ => rfl, fun h => absurd rfl h⟩, fun _ h => by cases h⟩
  · simp [Value.cells] at hcs
    obtain ⟨rfl, rfl, rfl⟩ := hcs
    simp only [Prod.mk.injEq] at hx
    obtain ⟨rfl, rfl⟩ := hx
    simp only [if_true] at hz
    have hlen : ((zs.take len).map (Value.int k)).length = len := by simp; omega
    refine ⟨zs.take len, ⟨some a, cap, by rw [hlen], by omega, hm, (fun h => by simp at h), fun hne => ?_⟩, fun z hz' => hwz z (List.mem_of_mem_take hz')⟩
    have hpos : 0 < len := by
      rcases Nat.eq_zero_or_pos len with h0 | h0
      · subst h0; simp at hne
      · exact h0
    obtain ⟨ab, ao, spot⟩ := a
    have hspot : spot = none := by simpa [Addr.add] using World.cell?_spot (hcell 0 (by omega))
    subst hspot
    refine ⟨ab, ao, rfl, hlt (.cell ab ao) (MemPlace.mem_row.2 ⟨0, by omega, by simp⟩), fun j u hu => ?_⟩
    have hj := (List.getElem?_eq_some_iff.1 hu).1
    rw [hlen] at hj
    have := hcell j (by omega)
    rw [Go.WideShapes.add_plain] at this
    rw [this, ← hu]
    simp [List.getElem?_take_of_lt hj, List.getD_eq_getElem?_getD, List.getElem?_eq_getElem (show j < zs.length by omega)]
end
end Go.Proofs.YtbjencibkkhbhaaGreatDoor
