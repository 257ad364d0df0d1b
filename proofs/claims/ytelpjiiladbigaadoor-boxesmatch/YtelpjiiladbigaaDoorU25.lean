/- alive of layer 13. -/
/- slices.Clone, slices.Sort and slices.Compact on a row of names. -/
import Derived.Test.YtelpjiiladbigaaDoorU24
import Derived.Test.YtelpjiiladbigaaDoorU02
import Derived.Sort.OwnSorted
import Derived.Sort.Grow
import Derived.Lib.OwnBridge
section
set_option linter.unusedSimpArgs false
set_option linter.unusedVariables false
namespace Go.Proofs.YtelpjiiladbigaaDoor
open Go.RowKit Go.Shelf
set_option maxRecDepth 20000 in
set_option maxHeartbeats 1000000 in
theorem alive13 {B : Nat} {w : World} (hM : MX B w) (hB : B ≤ w.heap.size) : Calls Tryd.prog 9 #[] w fun e w' => e = .returned (.bool true) ∧ Below w.heap.size w w' := by
  have HMo : Hid (Calls Tryd.prog 17 #[.string ⟨#[97, 47, 120]⟩, .string ⟨#[97]⟩, .string ⟨#[98, 47, 99]⟩] w fun e w' => e = .returned (.tuple #[.string ⟨#[98, 47, 99, 47, 120]⟩, .bool true]) ∧ w' = w) := by
    have := moved_any [97, 47, 120] [97] [98, 47, 99] w (by decide) (by decide) (by decide)
    rwa [show movV (movO [97, 47, 120] [97] [98, 47, 99]) = .returned (.tuple #[.string ⟨#[98, 47, 99, 47, 120]⟩, .bool true]) from by simp [movV, movO, undB]] at this
  have HF : Hid (∀ (P N : List UInt8) (W : World), P.length ≤ 10000 → N.length ≤ 100000 → Below w.heap.size w W → Calls Tryd.prog 15 #[.string ⟨P.toArray⟩, .string ⟨N.toArray⟩] W fun e w' => e = .returned (.bool (fit (decide (N = inboxU)) P N)) ∧ Below w.heap.size w w') := fun P N W hP hN hW => (Fits_any (hM.keep (hW.mono hB)) (Nat.le_trans hB hW.size) P N hP hN).mono fun e w' h => ⟨h.1, hW.trans (h.2.mono hW.size)⟩
  clear hM
  have H1 : Hid (∀ W, Below w.heap.size w W → Calls Tryd.prog 15 #[.string ⟨#[97, 47, 37]⟩, .string ⟨#[97, 47, 98]⟩] W fun e w' => e = .returned (.bool true) ∧ Below w.heap.size w w') := fun W hW => by
    have := HF.out [97, 47, 37] [97, 47, 98] W (by decide) (by decide) hW
    rwa [show fit (decide (([97, 47, 98] : List UInt8) = inboxU)) [97, 47, 37] [97, 47, 98] = true from by simp [fit, starB, sameI]] at this
  have H2 : Hid (∀ W, Below w.heap.size w W → Calls Tryd.prog 15 #[.string ⟨#[97, 47, 37]⟩, .string ⟨#[97, 47, 98, 47, 99]⟩] W fun e w' => e = .returned (.bool false) ∧ Below w.heap.size w w') := fun W hW => by
    have := HF.out [97, 47, 37] [97, 47, 98, 47, 99] W (by decide) (by decide) hW
    rwa [show fit (decide (([97, 47, 98, 47, 99] : List UInt8) = inboxU)) [97, 47, 37] [97, 47, 98, 47, 99] = false from by simp [fit, starB, sameI]] at this
  have H3 : Hid (∀ W, Below w.heap.size w W → Calls Tryd.prog 15 #[.string ⟨#[97, 42]⟩, .string ⟨#[97, 47, 98, 47, 99]⟩] W fun e w' => e = .returned (.bool true) ∧ Below w.heap.size w w') := fun W hW => by
    have := HF.out [97, 42] [97, 47, 98, 47, 99] W (by decide) (by decide) hW
    rwa [show fit (decide (([97, 47, 98, 47, 99] : List UInt8) = inboxU)) [97, 42] [97, 47, 98, 47, 99] = true from by simp [fit, starB, sameI]] at this
  have H4 : Hid (∀ W, Below w.heap.size w W → Calls Tryd.prog 15 #[.string ⟨#[73, 110, 66, 37]⟩, .string ⟨#[73, 78, 66, 79, 88]⟩] W fun e w' => e = .returned (.bool true) ∧ Below w.heap.size w w') := fun W hW => by
    have := HF.out [73, 110, 66, 37] [73, 78, 66, 79, 88] W (by decide) (by decide) hW
    rwa [show fit (decide (([73, 78, 66, 79, 88] : List UInt8) = inboxU)) [73, 110, 66, 37] [73, 78, 66, 79, 88] = true from by simp [fit, starB, sameI, lowB, inboxU]] at this
  have HW : Hid (Below w.heap.size w w) := Below.refl _ _
  clear HF
  go_enter Tryd.func9, Tryd.ntmps9
  go_wp2_with (go_at_call 17; refine HMo.out.mono ?_; rintro e w' ⟨rfl, rfl⟩)
  refine (H1.out _ HW.out).mono ?_
  rintro e w2 ⟨rfl, hb2⟩
  clear HW H1
  replace hb2 := hide hb2
  go_wp2_with fail
  refine (H2.out _ hb2.out).mono ?_
  rintro e w3 ⟨rfl, hb3⟩
  clear hb2 H2
  replace hb3 := hide hb3
  go_wp2_with fail
  refine (H3.out _ hb3.out).mono ?_
  rintro e w4 ⟨rfl, hb4⟩
  clear hb3 H3
  replace hb4 := hide hb4
  go_wp2_with fail
  refine (H4.out _ hb4.out).mono ?_
  rintro e w5 ⟨rfl, hb5⟩
  clear hb4 H4
  have HW := hide hb5
  go_wp2
  go_ret
  exact ⟨rfl, HW.out⟩
end Go.Proofs.YtelpjiiladbigaaDoor

end
section
set_option linter.unusedSimpArgs false
set_option linter.unusedVariables false
namespace Go.Proofs.YtelpjiiladbigaaDoor
open Go.RowKit Go.Shelf Go.Sort
/-- A row of names of this call's own, in a block from B on, below U; or nil. -/
def Cl (B U : Nat) (w : World) (v : Value) (xs : Nms) : Prop := (xs = [] ∧ v = .slice none 0 0) ∨ ∃ g cap, v = .slice (some ⟨g, 0, none⟩) xs.length cap ∧ B ≤ g ∧ (g < U ∧ U ≤ w.heap.size) ∧ xs.length ≤ cap ∧ Holds encStr w g 0 xs.toArray
theorem holds_block {w w' : World} {g : Nat} {d : Array (List UInt8)} (h : Holds encStr w g 0 d) (hb : w'.heap[g]? = w.heap[g]?) : Holds encStr w' g 0 d := fun j hj => ⟨(World.cell?_of_block (a := ⟨g, 0 + j, none⟩) hb).trans (h j hj).1, (World.frozen?_of_block (a := ⟨g, 0 + j, none⟩) hb).trans (h j hj).2⟩
theorem Cl.below {B U : Nat} {w w' : World} {v : Value} {xs : Nms} (h : Cl B U w v xs) (hb : Below w.heap.size w w') : Cl B U w' v xs := by
  rcases h with h | ⟨g, cap, h1, h2, h3, h4, h5⟩
  · exact .inl h
  · exact .inr ⟨g, cap, h1, h2, ⟨h3.1, Nat.le_trans h3.2 hb.size⟩, h4, holds_block h5 (hb.block g (Nat.lt_of_lt_of_le h3.1 h3.2))⟩
theorem holds_cell {w : World} {g : Nat} {xs : Nms} (h : Holds encStr w g 0 xs.toArray) (i : Nat) (hi : i < xs.length) : w.cell? ⟨g, i, none⟩ = some (.string ⟨xs[i].toArray⟩) := by
  have := (h i (by simpa using hi)).1
  rw [Nat.zero_add] at this
  rw [this, getElem!_pos _ i (by simpa using hi)]
  rfl
theorem clone13 {w : World} {v : Value} {xs : Nms} (h : TX w v xs) (hl : xs.length ≤ 1000) : Calls Tryd.prog 35 #[v] w fun e w' => ∃ v', e = .returned v' ∧ Below w.heap.size w w' ∧ Cl w.heap.size w'.heap.size w' v' xs := by
  obtain ⟨A, c, rfl, hc⟩ := h
  have key : ∀ {e : Ending} {w' : World}, (∃ v', e = .returned v' ∧ w'.ownsRow w.heap.size 9 1 v' xs.length (xs.map encStr) ∧ v' ≠ .slice none 0 0 ∧ Below w.heap.size w w') → ∃ v', e = .returned v' ∧ Below w.heap.size w w' ∧ Cl w.heap.size w'.heap.size w' v' xs := fun {e w'} h => by
    obtain ⟨v', he, hown, hnn, hbel⟩ := h
    obtain ⟨g, cap, rfl, hbg, hgl, hncap, hcm, hlen, hH⟩ := Lib.holds_of_ownsRow hown hnn
    exact ⟨_, he, hbel, .inr ⟨g, cap, rfl, hbg, ⟨hgl, Nat.le_refl _⟩, hncap, hH⟩⟩
  by_cases h0 : xs = []
  · subst h0
    cases A with
    | none => exact (Tryd.slices_Clone_string_nil _ _ w).mono fun e w' h => ⟨_, h.1, h.2 ▸ Below.refl _ _, .inl ⟨rfl, rfl⟩⟩
    | some a => exact (Tryd.slices_Clone_string_zero a c w).mono fun e w' h => key h
  · have hpos : 0 < xs.length := List.length_pos_iff.2 h0
    obtain ⟨g, o, rfl, _, _⟩ := hc 0 hpos
    have hm : ∀ l : Nms, (l.map fun x => (⟨x.toArray⟩ : ByteArray)).map Value.string = l.map encStr := fun l => by
      rw [List.map_map]
      rfl
    have := Tryd.slices_Clone_string g o xs.length c (xs.map fun x => ⟨x.toArray⟩) w (by simp) (by omega) (fun j hj => by
      rw [List.length_map] at hj
      obtain ⟨g', o', e, _, hcj⟩ := hc j hj
      cases e
      rw [hcj, List.getD_eq_getElem?_getD, List.getElem?_map, List.getElem?_eq_getElem hj]
      rfl)
    rw [List.take_of_length_le (by simp), hm] at this
    exact this.mono fun e w' h => key h
theorem below_grown {B : Nat} {w w' : World} {g : Nat} (h : w.grownBy w' (some g)) (hg : B ≤ g) (hB : B ≤ w.heap.size) : Below B w w' := ⟨h.os, h.tape, h.output, h.size, fun k hk => h.block k (by omega) (fun e => by injection e with e; omega)⟩
theorem sort13 {B U : Nat} {w : World} {v : Value} {xs : Nms} (h : Cl B U w v xs) (hB : B ≤ w.heap.size) (hl : xs.length ≤ 1000) : Calls Tryd.prog 36 #[v] w fun e w' => e = .returned (.tuple #[]) ∧ Below B w w' ∧ Cl B U w' v (sortL xs) := by
  rcases h with ⟨rfl, rfl⟩ | ⟨g, cap, rfl, h2, h3, h4, h5⟩
  · exact (Tryd.slices_Sort_string_none none 0 w).mono fun e w' h => ⟨h.1, h.2 ▸ Below.refl _ _, .inl ⟨by simp [sortL], rfl⟩⟩
  · refine (Tryd.slices_Sort_string g 0 cap xs w h5 (by omega) (by omega)).mono ?_
    rintro e w' ⟨he, n, os, rfl⟩
    refine ⟨he, below_grown (grownBy_sorted _) h2 hB, .inr ⟨g, cap, by rw [sortL_len], h2, ?_, by rw [sortL_len]; exact h4, ?_⟩⟩
    · refine ⟨h3.1, Nat.le_trans h3.2 ?_⟩
      simp [grow, putRow, mapBlock, Sort.ahead]
    · exact holds_grow encStr _ os g 0 _ (by simpa [putRow, mapBlock, Sort.ahead] using (Nat.lt_of_lt_of_le h3.1 h3.2)) (holds_putRow encStr _ g 0 _ _ (holds_ahead encStr w n g 0 _ h5) (by simp))
theorem compact13 {B U : Nat} {w : World} {v : Value} {zs : Nms} (h : Cl B U w v zs) (hB : B ≤ w.heap.size) (hl : zs.length ≤ 1000) : Calls Tryd.prog 37 #[v] w fun e w' => ∃ A cap, e = .returned (.slice A (Lib.compact zs).length cap) ∧ Below B w w' ∧ TX w' (.slice A (Lib.compact zs).length cap) (Lib.compact zs) ∧ Mvs (fun k => B ≤ k ∧ k < U) w w' ∧ ∀ b, A = some b → b.block < w.heap.size := by
  rcases h with ⟨rfl, rfl⟩ | ⟨g, cap, rfl, h2, h3, h4, h5⟩
  · refine (Tryd.slices_Compact_string_empty none 0 w).mono fun e w' h => ?_
    obtain ⟨rfl, rfl⟩ := h
    exact ⟨none, 0, rfl, Below.refl _ _, ⟨none, 0, rfl, fun i hi => by simp [Lib.compact, Lib.compactUpTo] at hi⟩, Mvs.refl _ _, fun b e => by cases e⟩
  · refine (Tryd.slices_Compact_string g 0 cap zs w h5 (by omega) h4).mono ?_
    rintro e w' ⟨he, q, rfl⟩
    have hle : (Lib.compact zs).length ≤ zs.length := by
      unfold Lib.compact Lib.compactUpTo
      rw [List.length_map]
      exact Nat.le_trans (List.length_filter_le _ _) (by simp)
    have hH := holds_putRow encStr (Sort.ahead w q) g 0 zs.toArray (Lib.compact zs ++ List.replicate (zs.length - (Lib.compact zs).length) []).toArray (holds_ahead encStr w q g 0 _ h5) (by simp; omega)
    have hs : (putRow encStr (Sort.ahead w q) g 0 (Lib.compact zs ++ List.replicate (zs.length - (Lib.compact zs).length) []).toArray).heap.size = w.heap.size := by simp [putRow, mapBlock, Sort.ahead]
    refine ⟨some ⟨g, 0, none⟩, cap, he, Lib.below_putRow (Below.refl _ _) h2, ⟨_, _, rfl, fun i hi => ⟨g, 0, rfl, by rw [hs]; omega, ?_⟩⟩, ⟨rfl, rfl, rfl, by rw [hs]; exact Nat.le_refl _, fun k hk hn => ?_⟩, fun b e => by cases e; show g < _; omega⟩
    · have hc := holds_cell (xs := Lib.compact zs ++ List.replicate (zs.length - (Lib.compact zs).length) []) hH i (by rw [List.length_append]; omega)
      rw [Nat.zero_add, hc, List.getElem_append_left hi]
    · have hne : g ≠ k := fun e => hn ⟨e ▸ h2, e ▸ h3.1⟩
      simp [putRow, mapBlock, Sort.ahead, Array.getElem?_modify, hne]
end Go.Proofs.YtelpjiiladbigaaDoor

end
