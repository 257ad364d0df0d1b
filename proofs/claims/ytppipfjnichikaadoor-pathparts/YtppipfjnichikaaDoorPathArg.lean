/- A path as an argument: two texts, opened and shut. -/
import Derived.Test.YtppipfjnichikaaDoorProg
import Derived.ProofKit
import Derived.OpenShut
namespace Go.Proofs.YtppipfjnichikaaDoor
open Go.ChangeShapes Go.WideShapes Go.ChangeAt Go.RowKit

theorem array2 {α : Type} {cs : Array α} (h : cs.size = 2) : ∃ c0 c1, cs = #[c0, c1] := by
  obtain ⟨l⟩ := cs
  match l, h with
  | [c0, c1], _ => exact ⟨c0, c1, rfl⟩
theorem list2 {α : Type} {l : List α} (h : l.length = 2) : ∃ c0 c1, l = [c0, c1] := by
  match l, h with
  | [c0, c1], _ => exact ⟨c0, c1, rfl⟩
theorem pathCells : Tryd.prog.cellsOf 24 = 2 := by kernel_rfl
theorem textCells : Tryd.prog.cellsOf 9 = 1 := by kernel_rfl
section
variable {P : Program} {T ti : TypeId} {f0 f1 : Field} {H : Type} {enc : TypeId × Value → H} {w : World} {base : Nat} {spare : Nat → Bool} {held : Bool}
theorem open_texts2 {r : Reach} {b0 : Nat} {v : Value} {d : DataW H} {p : List MemPlace} (hs : P.underlying T = some (.struct #[f0, f1])) (hi : P.underlying ti = some .string) (hC : P.cellsOf T = 2) (hc : P.cellsOf ti = 1) (t0 : f0.type = ti) (o0 : f0.offset = 0) (t1 : f1.type = ti) (o1 : f1.offset = 1) (hv : Value.okWide P w r b0 T v) (h : DataW.Trod enc P w base spare held T v d p) :
    ∃ y m : ByteArray, v = .agg #[.string y, .string m] ∧ d = .agg [.lit (.string y.data.toList), .lit (.string m.data.toList)] ∧ p = [] ∧ y.size ≤ maxLen ∧ m.size ≤ maxLen := by
  obtain ⟨cs, rfl, hsz⟩ := okWide_struct hs hv
  obtain ⟨c0, c1, rfl⟩ := array2 (hsz.trans hC)
  obtain ⟨fuel, hf⟩ := h
  obtain ⟨xs, n, _, hx, hl, hlen, hfs⟩ := DataW.trod_struct hs hf
  obtain ⟨y0, y1, rfl⟩ := list2 hlen
  have g0 := hfs 0 f0 rfl
  have g1 := hfs 1 f1 rfl
  simp only [t0, t1, o0, o1, hc] at g0 g1
  obtain ⟨z0, e0, e0', w0⟩ := DataW.trod_string hi g0
  obtain ⟨z1, e1, e1', w1⟩ := DataW.trod_string hi g1
  simp [Value.cells] at e0 e1
  subst e0 e1 e0' e1'
  simp only [Prod.mk.injEq] at hx
  exact ⟨z0, z1, rfl, hx.1, hx.2, w0, w1⟩
theorem shut_texts2 {y m : ByteArray} (hs : P.underlying T = some (.struct #[f0, f1])) (hi : P.underlying ti = some .string) (hC : P.cellsOf T = 2) (hc : P.cellsOf ti = 1) (t0 : f0.type = ti) (o0 : f0.offset = 0) (t1 : f1.type = ti) (o1 : f1.offset = 1) (w0 : y.size ≤ maxLen) (w1 : m.size ≤ maxLen) :
    DataW.Trod enc P w base spare held T (.agg #[.string y, .string m]) (.agg [.lit (.string y.data.toList), .lit (.string m.data.toList)]) [] := by
  have one : ∀ x : ByteArray, x.size ≤ maxLen → DataW.trod enc P w base spare held 1 ti [.string x] = some (.lit (.string x.data.toList), []) := fun x hx => by
    simp [DataW.trod, hi, hx]
  have := trod_struct_mk (enc := enc) (w := w) (base := base) (spare := spare) (held := held) (n := 1) (cs := [.string y, .string m])
    (xs := [(.lit (.string y.data.toList), []), (.lit (.string m.data.toList), [])]) hs (by simp [hC])
    (by simp [hc, t0, t1, o0, o1, one y w0, one m w1])
  exact ⟨_, by simpa [Value.cells] using this⟩
end
section
variable {H : Type} {enc : TypeId × Value → H} {w : World} {base : Nat} {spare : Nat → Bool} {held : Bool}
set_option maxRecDepth 100000 in
theorem open_path {r : Reach} {b0 : Nat} {v : Value} {d : DataW H} {p : List MemPlace} (hv : Value.okWide Tryd.prog w r b0 24 v) (h : DataW.Trod enc Tryd.prog w base spare held 24 v d p) :
    ∃ y m : ByteArray, v = .agg #[.string y, .string m] ∧ d = .agg [.lit (.string y.data.toList), .lit (.string m.data.toList)] ∧ p = [] ∧ y.size ≤ maxLen ∧ m.size ≤ maxLen :=
  open_texts2 Tryd.underlying24 Tryd.underlying9 pathCells textCells rfl rfl rfl rfl hv h
set_option maxRecDepth 100000 in
theorem shut_path {y m : ByteArray} (w0 : y.size ≤ maxLen) (w1 : m.size ≤ maxLen) :
    DataW.Trod enc Tryd.prog w base spare held 24 (.agg #[.string y, .string m]) (.agg [.lit (.string y.data.toList), .lit (.string m.data.toList)]) [] :=
  shut_texts2 Tryd.underlying24 Tryd.underlying9 pathCells textCells rfl rfl rfl rfl w0 w1
end
end Go.Proofs.YtppipfjnichikaaDoor
