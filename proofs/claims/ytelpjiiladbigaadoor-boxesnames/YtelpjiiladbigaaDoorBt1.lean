/- The document's Fits: its table, made from the end on. -/
import Derived.Test.YtelpjiiladbigaaDoorBnMath
import Derived.Test.YtelpjiiladbigaaDoorBo13
set_option linter.unusedSimpArgs false
set_option linter.unusedVariables false
namespace Go.Proofs.YtelpjiiladbigaaDoor
open Go.RowKit Go.Shelf
theorem tab_in {q m W R : Nat} (hq : q + 1 < R) (hm : m < W) : (q + 1) * W + m < R * W := by
  have h1 : (q + 2) * W ≤ R * W := Nat.mul_le_mul_right _ (by omega)
  have h2 : (q + 2) * W = (q + 1) * W + W := by rw [show q + 2 = (q + 1) + 1 from rfl, Nat.add_mul (q + 1) 1 W, Nat.one_mul]
  omega
theorem tab_in0 {q m W R : Nat} (hq : q < R) (hm : m < W) : q * W + m < R * W := by
  have h1 : (q + 1) * W ≤ R * W := Nat.mul_le_mul_right _ (by omega)
  have h2 : (q + 1) * W = q * W + W := by rw [Nat.add_mul, Nat.one_mul]
  omega
theorem tab_max {W R : Nat} (hr : R ≤ 201) (hw : W ≤ 201) : R * W ≤ 40401 := by
  have := Nat.mul_le_mul hr hw
  omega
/-- The table under way. -/
def Tb (w wr : World) (b : Nat) (inb : Bool) (P N : List UInt8) (k : Nat) : Prop :=
  w.heap.size ≤ b ∧ Below w.heap.size w wr ∧ Rw wr 1 (.slice (some ⟨b, 0, none⟩) ((P.length + 1) * (N.length + 1)) ((P.length + 1) * (N.length + 1))) ((P.length + 1) * (N.length + 1)) ((tabL inb P N k).map Value.bool) (some b)
theorem Rw.at0 {w : World} {g n c : Nat} {cs : List Value} (h : Rw w 1 (.slice (some ⟨g, 0, none⟩) n c) n cs (some g)) : (∀ j u, cs[j]? = some u → w.cell? ⟨g, j, none⟩ = some u) ∧ ∀ j, j < n → w.frozen? ⟨g, j, none⟩ = false := by
  rcases h.2 with ⟨h, _⟩ | ⟨g', o', cap', k1, k2, h1, h2, h3, h4, h5⟩
  · cases h
  · cases k1
    cases k2
    refine ⟨fun j u hu => ?_, fun j hj => ?_⟩
    · have := h4 j u hu
      rwa [Nat.zero_add] at this
    · have := (h5 j (by omega)).2
      rwa [Nat.zero_add] at this
theorem Tb.at {w wr : World} {b : Nat} {inb : Bool} {P N : List UInt8} {k j : Nat} (h : Tb w wr b inb P N k) (hj : j < (P.length + 1) * (N.length + 1)) (hk : k ≤ j) : wr.cell? ⟨b, j, none⟩ = some (.bool (fitE inb P N j)) :=
  (Rw.at0 h.2.2).1 j (.bool (fitE inb P N j)) (by rw [List.getElem?_map, tabL_at hj hk]; rfl)
theorem Tb.here {w wr : World} {b : Nat} {inb : Bool} {P N : List UInt8} {k j : Nat} (h : Tb w wr b inb P N k) (hj : j < (P.length + 1) * (N.length + 1)) : ∃ u, wr.cell? ⟨b, j, none⟩ = some u ∧ wr.frozen? ⟨b, j, none⟩ = false :=
  have hl : j < ((tabL inb P N k).map Value.bool).length := by rw [List.length_map, tabL_len]; exact hj
  ⟨_, (Rw.at0 h.2.2).1 j _ (List.getElem?_eq_getElem hl), (Rw.at0 h.2.2).2 j hj⟩
theorem Tb.below {w wr wq : World} {b : Nat} {inb : Bool} {P N : List UInt8} {k : Nat} (h : Tb w wr b inb P N k) (hb : Below wr.heap.size wr wq) : Tb w wq b inb P N k := by
  have := h.2.2.lt b rfl
  exact ⟨h.1, h.2.1.trans (hb.mono h.2.1.size), h.2.2.keep (S := fun _ => False) (Mvs.of_below hb) (fun _ _ c => c)⟩
theorem Tb.put {w wr : World} {b : Nat} {inb : Bool} {P N : List UInt8} {k : Nat} (h : Tb w wr b inb P N (k + 1)) (hk : k < (P.length + 1) * (N.length + 1)) {t : Bool} (ht : t = fitE inb P N k) : Tb w (wr.setCell ⟨b, k, none⟩ (.bool t)) b inb P N k := by
  refine ⟨h.1, h.2.1.setCell (p := ⟨b, k, none⟩) h.1 _, ?_⟩
  have := h.2.2.put1 k hk (.bool t)
  rw [Nat.zero_add, ← List.map_set, ht, tabL_set] at this
  rw [ht]
  exact this
theorem slice_one (s : List UInt8) (b : Nat) (h2 : b < s.length) (w : World) : (Instr.slice 9 (.string ⟨s.toArray⟩) (some (.int .i64 (b : Int))) (some (.int .i64 ((b : Int) + 1))) none).run Tryd.prog w = .ok (.string ⟨#[s[b]]⟩) w := by
  have := run_slice_string (P := Tryd.prog) w 9 ⟨s.toArray⟩ .i64 .i64 (b : Int) ((b : Int) + 1) Tryd.underlying9 (by omega) (by omega) (by rw [size_lit]; omega)
  rw [this]
  rw [show ((b : Int)).toNat = b from by omega, show ((b : Int) + 1).toNat = b + 1 from by omega]
  have e : (⟨s.toArray⟩ : ByteArray).extract b (b + 1) = ⟨[s[b]].toArray⟩ := by
    apply ByteArray.ext
    simp only [ByteArray.data_extract]
    apply Array.ext'
    simp only [Array.toList_extract, List.extract_eq_take_drop]
    rw [show b + 1 - b = 1 from by omega, List.drop_eq_getElem_cons h2]
    rfl
  rw [e]
end Go.Proofs.YtelpjiiladbigaaDoor
