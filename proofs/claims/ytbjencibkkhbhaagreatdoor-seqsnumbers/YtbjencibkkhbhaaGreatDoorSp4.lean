/- The spans of a set, sorted: the library's sort. -/
import Derived.Test.YtbjencibkkhbhaaGreatDoorSp2
import Derived.Test.YtbjencibkkhbhaaGreatDoorSq6
import Derived.Test.YtbjencibkkhbhaaGreatDoorSrt
set_option linter.unusedVariables false
set_option linter.unusedSimpArgs false
namespace Go.Proofs.YtbjencibkkhbhaaGreatDoor
open Go.RowKit Go.Shelf
/-- A row of spans in block g from o on, that can be written. -/
def SH (w : World) (g o : Nat) (D : List (Int × Int)) : Prop := g < w.heap.size ∧ ∀ i (hi : i < D.length),
  (w.cell? ⟨g, o + i * 2, none⟩ = some (.int .i64 D[i].1) ∧ w.frozen? ⟨g, o + i * 2, none⟩ = false) ∧ w.cell? ⟨g, o + i * 2 + 1, none⟩ = some (.int .i64 D[i].2) ∧ w.frozen? ⟨g, o + i * 2 + 1, none⟩ = false
theorem SH.below {w w' : World} {g o : Nat} {D : List (Int × Int)} (h : SH w g o D) (hb : Below w.heap.size w w') : SH w' g o D := by
  obtain ⟨hg, h⟩ := h
  refine ⟨Nat.lt_of_lt_of_le hg hb.size, fun i hi => ?_⟩
  obtain ⟨⟨a1, a2⟩, a3, a4⟩ := h i hi
  exact ⟨⟨(hb.cell (p := ⟨g, _, none⟩) hg).trans a1, (World.frozen?_of_block (hb.block _ hg)).trans a2⟩, (hb.cell (p := ⟨g, _, none⟩) hg).trans a3, (World.frozen?_of_block (hb.block _ hg)).trans a4⟩
theorem SH.of_rw {w : World} {g o n cap : Nat} {D : List (Int × Int)} (hn : n = D.length) (h : Rw w 2 (.slice (some ⟨g, o, none⟩) n cap) n (D.flatMap rgF) (some g)) : SH w g o D := by
  subst hn
  rcases h.2 with ⟨_, _, e⟩ | ⟨g', o', cap', e1, e2, h1, h2, h3, h4, h5⟩
  · cases e
  · cases e1
    simp only [Value.slice.injEq, Option.some.injEq, Addr.mk.injEq, true_and, and_true] at e2
    obtain ⟨rfl, rfl⟩ := e2
    refine ⟨h3, fun i hi => ?_⟩
    have f0 := flat_at rgF_len D i hi 0 (by omega)
    have f1 := flat_at rgF_len D i hi 1 (by omega)
    have k0 := h4 (i * 2 + 0) _ (f0.trans rfl)
    have k1 := h4 (i * 2 + 1) _ (f1.trans rfl)
    have z0 := (h5 (i * 2) (by omega)).2
    have z1 := (h5 (i * 2 + 1) (by omega)).2
    rw [← Nat.add_assoc] at k1 z1
    exact ⟨⟨by simpa using k0, z0⟩, k1, z1⟩
theorem get_arr (D : List (Int × Int)) (i : Nat) (hi : i < D.length) : D.toArray[i]! = D[i] := by
  rw [getElem!_pos _ i (by simpa using hi)]
  simp
theorem SH.holds {w : World} {g o : Nat} {D : List (Int × Int)} (h : SH w g o D) : Sort.HoldsK rgF 2 w g o D.toArray := by
  intro j hj
  rw [Sort.size_flatK, List.size_toArray] at hj
  rw [Sort.get_flatK _ _ _ _ (by rw [List.size_toArray]; exact hj)]
  obtain ⟨⟨a1, a2⟩, a3, a4⟩ := h.2 (j / 2) (by omega)
  rw [get_arr D (j / 2) (by omega)]
  rcases Nat.mod_two_eq_zero_or_one j with e | e
  · rw [e]
    have hj2 : j / 2 * 2 = j := by omega
    rw [hj2] at a1 a2
    exact ⟨a1, a2⟩
  · rw [e]
    have hj2 : o + j / 2 * 2 + 1 = o + j := by omega
    rw [hj2] at a3 a4
    exact ⟨a3, a4⟩
theorem SH.of_holds {w : World} {g o : Nat} {d : Array (Int × Int)} (hg : g < w.heap.size) (h : Sort.HoldsK rgF 2 w g o d) : SH w g o d.toList := by
  refine ⟨hg, fun i hi => ?_⟩
  rw [Array.length_toList] at hi
  have e : d[i]! = d.toList[i]'(by rw [Array.length_toList]; exact hi) := by
    rw [getElem!_pos _ i hi]
    simp
  have k0 := h (i * 2) (by rw [Sort.size_flatK]; omega)
  have k1 := h (i * 2 + 1) (by rw [Sort.size_flatK]; omega)
  rw [Sort.get_flatK _ _ _ _ (by omega), show i * 2 / 2 = i by omega, show i * 2 % 2 = 0 by omega, e] at k0
  rw [Sort.get_flatK _ _ _ _ (by omega), show (i * 2 + 1) / 2 = i by omega, show (i * 2 + 1) % 2 = 1 by omega, e, ← Nat.add_assoc] at k1
  exact ⟨k0, k1⟩
theorem sortWorld_mvs (w : World) (g o n : Nat) (d : Array (Int × Int)) (os : Array Obj) : Mvs (fun k => k = g) w (sortWorldK rgF 2 w g o n d os) := by
  refine ⟨rfl, rfl, rfl, ?_, fun k hk hne => ?_⟩
  · unfold sortWorldK Sort.putRowK Sort.grow
    show w.heap.size ≤ ((Sort.putRow id (Sort.ahead w n) g o (Sort.flatK rgF 2 d)).heap ++ os).size
    rw [Array.size_append, Sort.size_putRow]
    show w.heap.size ≤ w.heap.size + _
    omega
  · show ((w.heap.modify g _) ++ os)[k]? = _
    rw [Array.getElem?_append_left (by simpa using hk), Array.getElem?_modify, if_neg (fun e => hne e.symm)]
theorem lt_sp (x y : Int × Int) : ltOf (fun x y : Int × Int => Lib.compareInt x.1 y.1) x y = decide (x.1 < y.1) := by
  unfold ltOf Lib.compareInt
  by_cases h1 : x.1 < y.1
  · simp [h1]
  · by_cases h2 : y.1 < x.1 <;> simp [h1, h2]
theorem swo_sp : Sort.SWO (ltOf fun x y : Int × Int => Lib.compareInt x.1 y.1) := by
  have e := lt_sp
  refine ⟨fun x => by rw [e]; simp, fun x y z h1 h2 => ?_, fun x y z h1 h2 => ?_⟩
  · rw [e] at *; simp at *; omega
  · rw [e] at *; simp at *; omega
set_option maxHeartbeats 1000000 in
theorem pcmp_any (x y : Int × Int) (W : World) : Calls Tryz.prog 58 #[.agg #[.int .i64 x.1, .int .i64 x.2], .agg #[.int .i64 y.1, .int .i64 y.2]] W fun e w' => e = .returned (.int .i64 (Lib.compareInt x.1 y.1)) ∧ ∃ q os', w' = Sort.grow (W.drewN q) os' := by
  have hcon := hide (fun W' => AnyG.cmp_Compare_int Tryz.cmpInts x.1 y.1 W')
  change Hid (∀ W', Calls Tryz.prog 59 _ _ _) at hcon
  generalize Lib.compareInt x.1 y.1 = r at hcon ⊢
  go_enter Tryz.func58, Tryz.ntmps58
  go_wp2_with (go_at_call 59; refine (hcon.out _).mono ?_; rintro e w' ⟨rfl, rfl⟩)
  go_ret
  exact ⟨rfl, 0, _, by rw [Sort.alloc_eq_grow, Sort.alloc_eq_grow, Sort.grow_grow]; rfl⟩
/-- slices.SortFunc on a row of spans. -/
theorem psort_any (g o cap : Nat) (D : List (Int × Int)) (w : World) (h : SH w g o D) (hl : D.length ≤ 1000000) :
    Calls Tryz.prog 57 #[.slice (some ⟨g, o, none⟩) D.length cap, .func (.func 58) #[] #[]] w fun e w' => e = .returned (.tuple #[]) ∧ ∃ D' : List (Int × Int), D'.length = D.length ∧ SH w' g o D' ∧ D'.Perm D ∧ (∀ i j (hi : i < D'.length) (hj : j < D'.length), i < j → D'[i].1 ≤ D'[j].1) ∧ Mvs (fun k => k = g) w w' := by
  have eg : ∀ args w, (callFunc 58 args).run Tryz.prog w = .ok (.enter 58 args) w := enters_of Tryz.func58 (by kernel_rfl) rfl
  have hcon := AnyQ.slices_SortFunc Tryz.sortSpans 2 Tryz.isAgg65 Tryz.sizeOf65 rgF (fun _ => rfl) (fun x v hv => by simp [rgF] at hv; rcases hv with rfl | rfl <;> rfl) (fun x y => Lib.compareInt x.1 y.1) swo_sp 58 #[] g o cap D.toArray w eg (fun _ _ _ _ x y => pcmp_any x y _) h.holds h.1 (by rw [List.size_toArray]; omega)
  rw [List.size_toArray] at hcon
  refine hcon.mono ?_
  rintro e w' ⟨rfl, d', n, os, ⟨hp1, hp2, hp3⟩, hs, rfl⟩
  replace hp1 : d'.size = D.length := hp1.trans (by simp)
  have hmv := sortWorld_mvs w g o n d' os
  refine ⟨rfl, d'.toList, by rw [Array.length_toList]; exact hp1, SH.of_holds (Nat.lt_of_lt_of_le h.1 hmv.size) (holdsK_sortWorldK_c rgF 2 w g o D.toArray d' n os h.holds h.1 (by rw [List.size_toArray]; exact hp1)), ?_, fun i j hi hj hij => ?_, hmv⟩
  · have e1 : d'.extract 0 D.length = d' := by
      have h0 := Array.extract_size (xs := d')
      rwa [hp1] at h0
    have e2 : D.toArray.extract 0 D.length = D.toArray := by
      have := Array.extract_size (xs := D.toArray)
      rwa [List.size_toArray] at this
    rw [e1, e2] at hp3
    simpa using hp3
  · rw [Array.length_toList] at hi hj
    have := hs i j (Nat.zero_le _) hij (by omega)
    rw [getElem!_pos _ i hi, getElem!_pos _ j hj] at this
    rw [lt_sp] at this
    simp only [Array.getElem_toList]
    simpa using this
end Go.Proofs.YtbjencibkkhbhaaGreatDoor
