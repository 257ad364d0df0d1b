/- A slice that came in, of cells of one kind: what is read of it. -/
/- postbagnum.Ints; numbers that came in, to be read. -/
import Derived.Test.YtkppeejbmalefaaGreatDoorU04
import Derived.Test.YtkppeejbmalefaaGreatDoorProg
import Derived.OpenShut
import Derived.Carry
import Derived.WideShapes
import Derived.Test.YtkppeejbmalefaaGreatDoorU34
section
namespace Go.Proofs.YtkppeejbmalefaaGreatDoor
open Go.RowKit

/-- The slice v reads as cs. -/
def AR (w : World) (v : Value) (cs : List Value) : Prop := ∃ A cap, v = .slice A cs.length cap ∧ cs.length ≤ cap ∧ cap ≤ maxLen ∧ (A = none → cap = 0) ∧
  (cs ≠ [] → ∃ g o, A = some ⟨g, o, none⟩ ∧ g < w.heap.size ∧ ∀ j u, cs[j]? = some u → w.cell? ⟨g, o + j, none⟩ = some u)
section
variable {w w' : World} {v : Value} {cs : List Value}
theorem AR.keep {S : Nat → Prop} (h : AR w v cs) (hm : Mvs S w w') (hS : ∀ A n c, v = .slice (some A) n c → ¬ S A.block) : AR w' v cs := by
  obtain ⟨A, cap, rfl, h1, h2, h3, h4⟩ := h
  refine ⟨A, cap, rfl, h1, h2, h3, fun hc => ?_⟩
  obtain ⟨g, o, rfl, hg, h5⟩ := h4 hc
  refine ⟨g, o, rfl, Nat.lt_of_lt_of_le hg hm.size, fun j u hu => ?_⟩
  rw [hm.cell (a := ⟨g, o + j, none⟩) hg (hS ⟨g, o, none⟩ _ _ rfl)]
  exact h5 j u hu
theorem AR.below (h : AR w v cs) (hb : Below w.heap.size w w') : AR w' v cs := h.keep (S := fun _ => False) (Mvs.of_below hb) (fun _ _ _ _ c => c)
theorem AR.src {P : Program} {t e : TypeId} (ht : P.underlying t = some (.slice e)) (h : AR w v cs) (h1 : ∀ u ∈ cs, u.oneCell' = true) : Src P 1 t v cs.length cs w := by
  obtain ⟨A, cap, rfl, hl, hm, hn, h4⟩ := h
  by_cases hc : cs = []
  · subst hc
    cases A with
    | none => exact Src.ofNil w ht cap
    | some a => exact Src.ofSlice w ht a 0 cap [] rfl (fun j u hu => by cases hu) h1
  · obtain ⟨g, o, rfl, hg, h5⟩ := h4 hc
    exact Src.ofSlice w ht ⟨g, o, none⟩ cs.length cap cs (by simp) (fun j u hu => by rw [Go.WideShapes.add_plain]; exact h5 j u hu) h1
/-- A stretch of it. -/
theorem AR.mid {P : Program} {t e : TypeId} (ht : P.underlying t = some (.slice e)) {a : Addr} {n cap i k : Nat} (h : AR w (.slice (some a) n cap) cs) (h1 : ∀ u ∈ cs, u.oneCell' = true) (hik : i ≤ k) (hk : k ≤ cs.length) (d : Addr) (hd : i < cap → d = a.add i) :
    Src P 1 t (.slice (some d) (k - i) (cap - i)) (k - i) ((cs.drop i).take (k - i)) w := by
  obtain ⟨A, cap', hv, hl, hm, hn, h4⟩ := h
  simp only [Value.slice.injEq] at hv
  obtain ⟨rfl, rfl, rfl⟩ := hv
  refine Src.ofSlice w ht d (k - i) (cap - i) _ (by simp; omega) (fun j u hu => ?_) (fun u hu => h1 u (List.mem_of_mem_drop (List.mem_of_mem_take hu)))
  have hj := (List.getElem?_eq_some_iff.1 hu).1
  simp only [List.length_take, List.length_drop] at hj
  rw [List.getElem?_take_of_lt (by omega), List.getElem?_drop] at hu
  have hc : cs ≠ [] := fun e => by rw [e] at hk; simp at hk; omega
  obtain ⟨g, o, hA, hg, h5⟩ := h4 hc
  cases hA
  rw [hd (by omega), Go.WideShapes.add_plain, Go.WideShapes.add_plain, Nat.add_assoc]
  exact h5 _ u hu
end
section
variable {H : Type} {enc : TypeId × Value → H}
/-- A slice of numbers, opened. -/
theorem open_row_ints {P : Program} {t e : TypeId} {k : IntKind} (ht : P.underlying t = some (.slice e)) (he : P.underlying e = some (.int k)) (hc : P.cellsOf e = 1) {W : World} {base : Nat} {v : Value} {d : DataW H} {p : List MemPlace}
    (hval : Value.okWide P W .any base t v) (h : DataW.Trod enc P W 0 (fun _ => true) true t v d p) (hlt : ∀ x ∈ p, x.block < W.heap.size) : ∃ zs : List Int, AR W v (zs.map (Value.int k)) ∧ ∀ z ∈ zs, (Lit.int k z).wf = true := by
  obtain ⟨a1, len, cap, rfl⟩ := Go.WideShapes.okWide_slice ht hval
  obtain ⟨fuel, hf⟩ := h
  rcases Go.ChangeShapes.open_ints ht he hc hf with ⟨hcs, hx⟩ | ⟨a, len', cap', zs, hcs, _, hl, hm, hz, hx, hcell, hwz⟩
  · simp [Value.cells] at hcs
    obtain ⟨rfl, rfl, rfl⟩ := hcs
    exact ⟨[], ⟨none, 0, rfl, Nat.le_refl _, Nat.zero_le _, fun _ => rfl, fun h => absurd rfl h⟩, fun _ h => by cases h⟩
  · simp [Value.cells] at hcs
    obtain ⟨rfl, rfl, rfl⟩ := hcs
    simp only [Prod.mk.injEq] at hx
    obtain ⟨rfl, rfl⟩ := hx
    simp only [if_true] at hz
    have hlen : ((zs.take len).map (Value.int k)).length = len := by simp; omega
    refine ⟨zs.take len, ⟨some a, cap, by rw [hlen], by omega, hm, (fun h => by simp at h), fun hne => ?_⟩, fun z hz' => hwz z (List.mem_of_mem_take hz')⟩
    have hpos : 0 < len := by
      rcases Nat.eq_zero_or_pos len with h0 | h0
      · subst h0; simp at hne
      · exact h0
    obtain ⟨ab, ao, spot⟩ := a
    have hspot : spot = none := by simpa [Addr.add] using World.cell?_spot (hcell 0 (by omega))
    subst hspot
    refine ⟨ab, ao, rfl, hlt (.cell ab ao) (MemPlace.mem_row.2 ⟨0, by omega, by simp⟩), fun j u hu => ?_⟩
    have hj := (List.getElem?_eq_some_iff.1 hu).1
    rw [hlen] at hj
    have := hcell j (by omega)
    rw [Go.WideShapes.add_plain] at this
    rw [this, ← hu]
    simp [List.getElem?_take_of_lt hj, List.getD_eq_getElem?_getD, List.getElem?_eq_getElem (show j < zs.length by omega)]
end
end Go.Proofs.YtkppeejbmalefaaGreatDoor

end
section
set_option linter.unusedSimpArgs false
set_option linter.unusedVariables false
namespace Go.Proofs.YtkppeejbmalefaaGreatDoor
open Go.RowKit Go.Shelf
theorem intsInfo : (Tryz.prog.info? 3).map (fun i => (i.zero, i.size, i.bytes)) = some (some (.int .i64 0), 1, 8) := by kernel_rfl
theorem intsOne (zs : List Int) : ∀ u ∈ zs.map (Value.int .i64), u.oneCell' = true := by
  intro u hu
  obtain ⟨z, _, rfl⟩ := List.mem_map.1 hu
  rfl
theorem src_ints {w : World} {C : Array Value} (zs : List Int) {n c : Nat} (hC : C = (zs.map (Value.int .i64)).toArray) (hn : n = zs.length) : Src Tryz.prog 1 29 (.slice (some ⟨w.heap.size, 0, none⟩) n c) zs.length (zs.map (Value.int .i64)) (w.alloc (.cells C 3)) := by
  subst hC hn
  refine Src.ofSlice _ Tryz.underlying29 ⟨w.heap.size, 0, none⟩ zs.length c (zs.map (Value.int .i64)) (by simp) (fun j u hu => ?_) (intsOne zs)
  rw [Go.WideShapes.add_plain, Nat.zero_add, (Blk.new w _ _).cell, List.getElem?_toArray, hu]
theorem ar_ints {w : World} {v : Value} {zs : List Int} (h : AR w v (zs.map (Value.int .i64))) : ReadOf intF 1 w v zs := by
  obtain ⟨A, cap, rfl, _, _, _, h4⟩ := h
  rw [List.length_map]
  refine ⟨A, cap, rfl, fun i hi => ?_⟩
  obtain ⟨g, o, e, hg, hc⟩ := h4 (fun e => by rw [List.map_eq_nil_iff] at e; rw [e] at hi; simp at hi)
  refine ⟨g, o, e, hg, fun j hj => ?_⟩
  obtain rfl : j = 0 := by omega
  rw [Nat.mul_one, Nat.add_zero, hc i (.int .i64 zs[i]) (by rw [List.getElem?_map, List.getElem?_eq_getElem hi]; rfl)]
  rfl
set_option maxRecDepth 20000 in
set_option maxHeartbeats 2000000 in
theorem ints_any (v : Value) (zs : List Int) (w : World) (h : AR w v (zs.map (Value.int .i64))) (hm : zs.length ≤ 1000) : Calls Tryz.prog 11 #[v] w fun e w' => ∃ u, e = .returned u ∧ ReadOf intF 1 w' u zs ∧ Below w.heap.size w w' := by
  have hA := hide h
  obtain ⟨A, c, rfl, hl, hmx, hn, _⟩ := h
  simp only [List.length_map] at hA hl ⊢
  obtain ⟨i0, hi, hz0, hz1, hz2⟩ := info_parts intsInfo
  go_enter Tryz.func11, Tryz.ntmps11
  go_wp2_with (at_make; refine wpList_make_own w rfl _ _ 29 rfl w.heap.size 3 i0 (.int .i64 0) 1 Tryz.underlying29 hi hz0 hz1 .i64 .i64 _ (zs.length + 4) rfl rfl (by omega) (by rw [hz2]; omega) (by simp only [maxLen]; omega) (Nat.le_refl _) ?_)
  intro w1 how1 hgr1
  have hb1 : Hid (Below w.heap.size w w1) := ⟨hgr1.os, hgr1.tape, hgr1.output, hgr1.size, fun k hk => hgr1.block k hk (by simp)⟩
  have hr1 : Hid (Rw w1 1 (.slice (some ⟨w.heap.size, 0, none⟩) 0 (zs.length + 4)) 0 [] (some w.heap.size)) := Rw.of_makes how1
  have hs1 : Hid (Src Tryz.prog 1 29 (.slice A zs.length c) zs.length (zs.map (Value.int .i64)) w1) := by
    have := AR.src (P := Tryz.prog) Tryz.underlying29 (hA.out.below hb1.out) (intsOne zs)
    rwa [List.length_map] at this
  clear how1 hgr1
  go_wp2_with (at_builtin; refine wpList_append_rw rfl _ _ 29 29 rfl 3 i0 (.int .i64 0) 1 8 Tryz.underlying29 hi hz0 hz1 hz2 rfl rfl hr1.out _ zs.length (zs.map (Value.int .i64)) rfl hs1.out (by simp only [maxLen]; omega) (by omega) ?_)
  intro v2 w2 G2 hr2 hm2 hg2
  obtain ⟨A2, c2, rfl⟩ := hr2.form
  have hb2 : Hid (Below w.heap.size w w2) := below_mvs hb1.out hm2 (fun k hk e => by cases e; omega) (Nat.le_refl _)
  have hg2' : Hid (∀ g, G2 = some g → w.heap.size ≤ g) := by
    rintro g rfl
    have := hb1.out.size
    rcases hg2 with h | h
    · cases h
      exact Nat.le_refl _
    · cases h
      exact this
  replace hr2 := hide hr2
  clear hm2 hg2 hs1 hr1
  go_wp2_with (at_builtin; refine wpList_append_rw rfl _ _ 29 29 rfl 3 i0 (.int .i64 0) 1 8 Tryz.underlying29 hi hz0 hz1 hz2 rfl rfl (hr2.out.keep (S := fun _ => False) ((Mvs.refl _ _).alloc _) (fun _ _ c => c)) _ 4 (([-91, -92, -93, -94] : List Int).map (Value.int .i64)) rfl (src_ints [-91, -92, -93, -94] rfl rfl) (by simp only [maxLen]; omega) (by omega) ?_)
  intro v3 w3 G3 hr3 hm3 hg3
  have hb3 : Hid (Below w.heap.size w w3) := below_mvs (hb2.out.alloc hb2.out.size _) hm3 (fun k hk e => by have := hg2'.out k e.symm; omega) (Nat.le_refl _)
  obtain ⟨g, o, cap, rfl, rfl, hcap, hcl, hg3⟩ : ∃ g o cap, G3 = some g ∧ v3 = .slice (some ⟨g, o, none⟩) (zs.length + 4) cap ∧ zs.length + 4 ≤ cap ∧ (∀ i (hi : i < zs.length), w3.cell? ⟨g, o + i, none⟩ = some (.int .i64 zs[i])) ∧ g < w3.heap.size := by
    rcases hr3.2 with ⟨_, h, _⟩ | ⟨g, o, cap, k1, k2, k3, _, k5, k6, _⟩
    · omega
    · refine ⟨g, o, cap, k1, k2, k3, fun i hi => k6 i _ ?_, k5⟩
      rw [List.getElem?_append_left (by simpa using hi), List.getElem?_map, List.getElem?_eq_getElem hi]
      rfl
  have hcap2 : (zs.length : Int) ≤ cap := by omega
  have HC := hide hcl
  clear hr3 hm3 hr2 hi hz0 hz1 hz2 hcl
  go_wp2
  go_ret
  refine ⟨_, rfl, ⟨some ⟨g, o, none⟩, _, rfl, fun i hi => ⟨g, o, rfl, hg3, fun j hj => ?_⟩⟩, hb3.out⟩
  obtain rfl : j = 0 := by omega
  rw [Nat.mul_one, Nat.add_zero, HC.out i hi]
  rfl
theorem CntC.cnt {p : Part} (h : CntC p) : Cnt p := by
  induction h with
  | mk h ks a b _ ih => exact .mk h ks (by omega) (by omega) ih
end Go.Proofs.YtkppeejbmalefaaGreatDoor

end
