/- Fits of package boxes, of any texts. -/
/- alive: the chapter's example; HeaderSame. -/
/- The document's Split, beside layer 9's texts. -/
import Derived.Test.YtdbmaobjikjifaaGreatDoorRU16
import Derived.Test.YtdbmaobjikjifaaGreatDoorRU13
import Derived.Test.YtdbmaobjikjifaaGreatDoorRU12
section
set_option linter.unusedSimpArgs false
set_option linter.unusedVariables false
namespace Go.Proofs.YtdbmaobjikjifaaGreatDoorR
open Go.RowKit Go.Shelf
theorem inbox_caps : ∀ d ∈ inboxU, 65 ≤ d.toNat ∧ d.toNat ≤ 90 := by decide
def wdT (t : List UInt8) : Prop := t.length ≤ 100001
theorem runL_sm {t : List UInt8} (ht : t.length ≤ 20000) : SmR (runL t) ∧ runL t ≠ [] := by
  unfold runL
  refine ⟨⟨?_, ?_⟩, ?_⟩
  · rw [List.length_map]
    have := spc_len 47 t
    omega
  · intro g hg
    obtain ⟨p, hp, rfl⟩ := List.mem_map.1 hg
    refine ⟨spc_ne 37 p, ?_⟩
    have h1 := spc_len 37 p
    have h2 := spc_size t p hp
    omega
  · rw [ne_eq, List.map_eq_nil_iff]
    exact spc_ne 47 t
theorem runsL_sm {P : List UInt8} (hP : P.length ≤ 10000) : SmA (runsL P) ∧ runsL P ≠ [] := by
  have hsl : (simL P).length ≤ 10000 := by
    have h1 := simF_len P []
    have h2 : simL P = P.foldl simS [] := rfl
    rw [h2]
    simp at h1
    omega
  unfold runsL
  generalize simL P = t at *
  have h1 := spc_len 42 t
  have h2 := spc_size (c := 42) t
  have h3 := spc_ne 42 t
  generalize spc 42 t = ts at *
  cases ts with
  | nil => exact absurd rfl h3
  | cons a b =>
    refine ⟨⟨by simp [runsT] at h1 ⊢; omega, fun r hr => ?_⟩, by simp [runsT]⟩
    simp only [runsT, List.mem_cons, List.mem_map] at hr
    rcases hr with rfl | ⟨y, hy, rfl⟩
    · exact runL_sm (by have := h2 a (by simp); omega)
    · exact runL_sm (by have := h2 y (by simp [hy]); simp; omega)
end Go.Proofs.YtdbmaobjikjifaaGreatDoorR

end
section
namespace Go.Proofs.YtdbmaobjikjifaaGreatDoorR
open Go.RowKit Go.Shelf
/-- The example's message. -/
def exL : List UInt8 := [65, 58, 32, 120, 13, 10, 32, 121, 13, 10, 66, 58, 122, 13, 10, 13, 10, 98, 111, 100, 121]
theorem ex_hd : (hd (splitS exL) 0).1 = [⟨[65], [120, 32, 121], 0, 10⟩, ⟨[66], [122], 10, 15⟩] := by kernel_rfl
theorem ex_body : bodyL (splitS exL) 0 = 17 := by kernel_rfl
end Go.Proofs.YtdbmaobjikjifaaGreatDoorR

end
section
namespace Go.Proofs.YtdbmaobjikjifaaGreatDoorR
open Go.RowKit
/-- A text as a value. -/
def sv (x : List UInt8) : Value := .string ⟨x.toArray⟩
theorem strInfo : (Tryz.prog.info? 9).map (fun i => (i.zero, i.size, i.bytes)) = some (some (.string ⟨#[]⟩), 1, 16) := by kernel_rfl
theorem sv_oneCell (xs : List (List UInt8)) : ∀ u ∈ xs.map sv, u.oneCell' = true := by
  intro u hu
  obtain ⟨b, _, rfl⟩ := List.mem_map.1 hu
  rfl
/-- One text, laid as a row just now. -/
theorem src_one {w : World} {t : TypeId} (x : List UInt8) {c : Nat} (ht : Tryz.prog.underlying t = some (.slice 9)) : Src Tryz.prog 1 t (.slice (some ⟨w.heap.size, 0, none⟩) 1 c) 1 [sv x] (w.alloc (.cells #[.string ⟨x.toArray⟩] 9)) := by
  refine Src.ofSlice _ ht ⟨w.heap.size, 0, none⟩ 1 c [sv x] (by simp) (fun j u hu => ?_) (sv_oneCell [x])
  have hj := (List.getElem?_eq_some_iff.1 hu).1
  obtain rfl : j = 0 := by simpa using hj
  rw [Go.WideShapes.add_plain, Nat.zero_add, (Blk.new w _ _).cell]
  simp at hu
  rw [← hu]
  rfl
/-- Texts in a row of this call's own. -/
def Texts (w wr : World) (v : Value) (xs : List (List UInt8)) : Prop := Below w.heap.size w wr ∧ ∃ G, Rw wr 1 v xs.length (xs.map sv) G ∧ ∀ g, G = some g → w.heap.size ≤ g
theorem Texts.grow {w wr w1 : World} {v1 : Value} {xs : List (List UInt8)} {x : List UInt8} {G G1 : Option Nat} {o : Obj} (hb : Below w.heap.size w wr) (hg : ∀ g, G = some g → w.heap.size ≤ g)
    (hr : Rw w1 1 v1 (xs.length + 1) (xs.map sv ++ [sv x]) G1) (hm : Mvs (fun k => some k = G) (wr.alloc o) w1) (hG : G1 = G ∨ G1 = some (wr.alloc o).heap.size) : Texts w w1 v1 (xs ++ [x]) := by
  refine ⟨below_mvs (hb.alloc hb.size _) hm (fun k hk e => by have := hg k e.symm; omega) (Nat.le_refl _), G1, ?_, ?_⟩
  · rw [List.length_append, List.map_append]
    exact hr
  · rintro g rfl
    have := hb.size
    rcases hG with h | h
    · exact hg g h.symm
    · cases h
      simp
      omega
theorem at_str (l : List UInt8) (i : Nat) (hi : i < l.length) : ∃ c, l[i] = c ∧ ∀ h : i < (⟨l.toArray⟩ : ByteArray).size, (⟨l.toArray⟩ : ByteArray)[i]'h = c := ⟨_, rfl, fun _ => rfl⟩
/-- Between f and i there is no byte 10. -/
def no10 (l : List UInt8) (f i : Nat) : Prop := (10 : UInt8) ∉ (l.drop f).take (i - f)
theorem no10_next {l : List UInt8} {f i : Nat} (h : no10 l f i) (hf : f ≤ i) (hi : i < l.length) (hc : l[i] ≠ 10) : no10 l f (i + 1) := by
  unfold no10 at *
  have e : i + 1 - f = (i - f) + 1 := by omega
  rw [e, List.take_add_one, List.getElem?_drop, show f + (i - f) = i by omega, List.getElem?_eq_getElem hi]
  simp only [Option.toList_some, List.mem_append, List.mem_singleton, not_or]
  exact ⟨h, fun e => hc e.symm⟩
theorem drop_cut {l : List UInt8} {f i : Nat} (hf : f ≤ i) (hi : i < l.length) (hc : l[i] = 10) : l.drop f = (l.drop f).take (i - f) ++ 10 :: l.drop (i + 1) := by
  conv => lhs; rw [← List.take_append_drop (i - f) (l.drop f)]
  rw [List.drop_drop, show f + (i - f) = i by omega, List.drop_eq_getElem_cons hi, hc]
theorem take_cut {l : List UInt8} {f i : Nat} (hf : f ≤ i) (hi : i < l.length) (hc : l[i] = 10) : (l.drop f).take (i + 1 - f) = (l.drop f).take (i - f) ++ [10] := by
  have e : i + 1 - f = (i - f) + 1 := by omega
  rw [e, List.take_add_one, List.getElem?_drop, show f + (i - f) = i by omega, List.getElem?_eq_getElem hi, hc]
  rfl

end Go.Proofs.YtdbmaobjikjifaaGreatDoorR

end
