/- A span as an argument: three numbers, opened and shut. -/
import Derived.Test.YtnokanmcgpjkmaaGreatDoorProg
import Derived.ProofKit
import Derived.OpenShut
namespace Go.Proofs.YtnokanmcgpjkmaaGreatDoor
open Go.ChangeShapes Go.WideShapes Go.ChangeAt Go.RowKit

theorem array3 {α : Type} {cs : Array α} (h : cs.size = 3) : ∃ c0 c1 c2, cs = #[c0, c1, c2] := by
  obtain ⟨l⟩ := cs
  match l, h with
  | [c0, c1, c2], _ => exact ⟨c0, c1, c2, rfl⟩
theorem list3 {α : Type} {l : List α} (h : l.length = 3) : ∃ c0 c1 c2, l = [c0, c1, c2] := by
  match l, h with
  | [c0, c1, c2], _ => exact ⟨c0, c1, c2, rfl⟩
theorem intCells3 : Tryz.prog.cellsOf 3 = 1 := by kernel_rfl

section
variable {P : Program} {T ti : TypeId} {f0 f1 f2 : Field} {H : Type} {enc : TypeId × Value → H} {w : World} {base : Nat} {spare : Nat → Bool} {held : Bool}
theorem open_three {r : Reach} {b0 : Nat} {v : Value} {d : DataW H} {p : List MemPlace} (hs : P.underlying T = some (.struct #[f0, f1, f2])) (hi : P.underlying ti = some (.int .i64)) (hC : P.cellsOf T = 3) (hc : P.cellsOf ti = 1) (t0 : f0.type = ti) (o0 : f0.offset = 0) (t1 : f1.type = ti) (o1 : f1.offset = 1) (t2 : f2.type = ti) (o2 : f2.offset = 2) (hv : Value.okWide P w r b0 T v) (h : DataW.Trod enc P w base spare held T v d p) :
    ∃ y m k : Int, v = .agg #[.int .i64 y, .int .i64 m, .int .i64 k] ∧ d = .agg [.lit (.int .i64 y), .lit (.int .i64 m), .lit (.int .i64 k)] ∧ p = [] ∧
      Lit.wf (.int .i64 y) = true ∧ Lit.wf (.int .i64 m) = true ∧ Lit.wf (.int .i64 k) = true := by
  obtain ⟨cs, rfl, hsz⟩ := okWide_struct hs hv
  obtain ⟨c0, c1, c2, rfl⟩ := array3 (hsz.trans hC)
  obtain ⟨fuel, hf⟩ := h
  obtain ⟨xs, n, _, hx, hl, hlen, hfs⟩ := DataW.trod_struct hs hf
  obtain ⟨y0, y1, y2, rfl⟩ := list3 hlen
  have g0 := hfs 0 f0 rfl
  have g1 := hfs 1 f1 rfl
  have g2 := hfs 2 f2 rfl
  simp only [t0, t1, t2, o0, o1, o2, hc] at g0 g1 g2
  obtain ⟨z0, e0, e0', w0⟩ := DataW.trod_int hi g0
  obtain ⟨z1, e1, e1', w1⟩ := DataW.trod_int hi g1
  obtain ⟨z2, e2, e2', w2⟩ := DataW.trod_int hi g2
  simp [Value.cells] at e0 e1 e2
  subst e0 e1 e2 e0' e1' e2'
  simp only [Prod.mk.injEq] at hx
  exact ⟨z0, z1, z2, rfl, hx.1, hx.2, w0, w1, w2⟩
theorem shut_three {y m k : Int} (hs : P.underlying T = some (.struct #[f0, f1, f2])) (hi : P.underlying ti = some (.int .i64)) (hC : P.cellsOf T = 3) (hc : P.cellsOf ti = 1) (t0 : f0.type = ti) (o0 : f0.offset = 0) (t1 : f1.type = ti) (o1 : f1.offset = 1) (t2 : f2.type = ti) (o2 : f2.offset = 2) (w0 : Lit.wf (.int .i64 y) = true) (w1 : Lit.wf (.int .i64 m) = true) (w2 : Lit.wf (.int .i64 k) = true) :
    DataW.Trod enc P w base spare held T (.agg #[.int .i64 y, .int .i64 m, .int .i64 k]) (.agg [.lit (.int .i64 y), .lit (.int .i64 m), .lit (.int .i64 k)]) [] := by
  have one : ∀ x : Int, Lit.wf (.int .i64 x) = true → DataW.trod enc P w base spare held 1 ti [.int .i64 x] = some (.lit (.int .i64 x), []) := fun x hx => by
    simp [DataW.trod, hi, hx]
  have := trod_struct_mk (enc := enc) (w := w) (base := base) (spare := spare) (held := held) (n := 1) (cs := [.int .i64 y, .int .i64 m, .int .i64 k])
    (xs := [(.lit (.int .i64 y), []), (.lit (.int .i64 m), []), (.lit (.int .i64 k), [])]) hs (by simp [hC])
    (by simp [hc, t0, t1, t2, o0, o1, o2, one y w0, one m w1, one k w2])
  exact ⟨_, by simpa [Value.cells] using this⟩
end
section
variable {H : Type} {enc : TypeId × Value → H} {w : World} {base : Nat} {spare : Nat → Bool} {held : Bool}
end
theorem len_of (x : ByteArray) (h : x.size ≤ maxLen) : x.data.toList.length ≤ maxLen := by
  rw [Array.length_toList]; exact h
end Go.Proofs.YtnokanmcgpjkmaaGreatDoor
