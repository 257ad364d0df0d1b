/- A struct of four numbers as an argument, opened and shut. -/
import Derived.Test.YtbjencibkkhbhabGreatDoorProg
import Derived.ProofKit
import Derived.OpenShut
namespace Go.Proofs.YtbjencibkkhbhabGreatDoor
open Go.ChangeShapes Go.WideShapes Go.ChangeAt Go.RowKit

theorem array4T {α : Type} {cs : Array α} (h : cs.size = 4) : ∃ c0 c1 c2 c3, cs = #[c0, c1, c2, c3] := by
  obtain ⟨l⟩ := cs
  match l, h with
  | [c0, c1, c2, c3], _ => exact ⟨c0, c1, c2, c3, rfl⟩
theorem list4T {α : Type} {l : List α} (h : l.length = 4) : ∃ c0 c1 c2 c3, l = [c0, c1, c2, c3] := by
  match l, h with
  | [c0, c1, c2, c3], _ => exact ⟨c0, c1, c2, c3, rfl⟩
theorem turnCells : Tryz.prog.cellsOf 31 = 4 := by kernel_rfl
theorem intCells4T : Tryz.prog.cellsOf 3 = 1 := by kernel_rfl

section
variable {P : Program} {T ti : TypeId} {f0 f1 f2 f3 : Field} {H : Type} {enc : TypeId × Value → H} {w : World} {base : Nat} {spare : Nat → Bool} {held : Bool}
theorem open_four {r : Reach} {b0 : Nat} {v : Value} {d : DataW H} {p : List MemPlace} (hs : P.underlying T = some (.struct #[f0, f1, f2, f3])) (hi : P.underlying ti = some (.int .i64)) (hC : P.cellsOf T = 4) (hc : P.cellsOf ti = 1) (t0 : f0.type = ti) (o0 : f0.offset = 0) (t1 : f1.type = ti) (o1 : f1.offset = 1) (t2 : f2.type = ti) (o2 : f2.offset = 2) (t3 : f3.type = ti) (o3 : f3.offset = 3) (hv : Value.okWide P w r b0 T v) (h : DataW.Trod enc P w base spare held T v d p) :
    ∃ y m k j : Int, v = .agg #[.int .i64 y, .int .i64 m, .int .i64 k, .int .i64 j] ∧ d = .agg [.lit (.int .i64 y), .lit (.int .i64 m), .lit (.int .i64 k), .lit (.int .i64 j)] ∧ p = [] ∧
      Lit.wf (.int .i64 y) = true ∧ Lit.wf (.int .i64 m) = true ∧ Lit.wf (.int .i64 k) = true ∧ Lit.wf (.int .i64 j) = true := by
  obtain ⟨cs, rfl, hsz⟩ := okWide_struct hs hv
  obtain ⟨c0, c1, c2, c3, rfl⟩ := array4T (hsz.trans hC)
  obtain ⟨fuel, hf⟩ := h
  obtain ⟨xs, n, _, hx, hl, hlen, hfs⟩ := DataW.trod_struct hs hf
  obtain ⟨y0, y1, y2, y3, rfl⟩ := list4T hlen
  have g0 := hfs 0 f0 rfl
  have g1 := hfs 1 f1 rfl
  have g2 := hfs 2 f2 rfl
  have g3 := hfs 3 f3 rfl
  simp only [t0, t1, t2, t3, o0, o1, o2, o3, hc] at g0 g1 g2 g3
  obtain ⟨z0, e0, e0', w0⟩ := DataW.trod_int hi g0
  obtain ⟨z1, e1, e1', w1⟩ := DataW.trod_int hi g1
  obtain ⟨z2, e2, e2', w2⟩ := DataW.trod_int hi g2
  obtain ⟨z3, e3, e3', w3⟩ := DataW.trod_int hi g3
  simp [Value.cells] at e0 e1 e2 e3
  subst e0 e1 e2 e3 e0' e1' e2' e3'
  simp only [Prod.mk.injEq] at hx
  exact ⟨z0, z1, z2, z3, rfl, hx.1, hx.2, w0, w1, w2, w3⟩
theorem shut_four {y m k j : Int} (hs : P.underlying T = some (.struct #[f0, f1, f2, f3])) (hi : P.underlying ti = some (.int .i64)) (hC : P.cellsOf T = 4) (hc : P.cellsOf ti = 1) (t0 : f0.type = ti) (o0 : f0.offset = 0) (t1 : f1.type = ti) (o1 : f1.offset = 1) (t2 : f2.type = ti) (o2 : f2.offset = 2) (t3 : f3.type = ti) (o3 : f3.offset = 3) (w0 : Lit.wf (.int .i64 y) = true) (w1 : Lit.wf (.int .i64 m) = true) (w2 : Lit.wf (.int .i64 k) = true) (w3 : Lit.wf (.int .i64 j) = true) :
    DataW.Trod enc P w base spare held T (.agg #[.int .i64 y, .int .i64 m, .int .i64 k, .int .i64 j]) (.agg [.lit (.int .i64 y), .lit (.int .i64 m), .lit (.int .i64 k), .lit (.int .i64 j)]) [] := by
  have one : ∀ x : Int, Lit.wf (.int .i64 x) = true → DataW.trod enc P w base spare held 1 ti [.int .i64 x] = some (.lit (.int .i64 x), []) := fun x hx => by
    simp [DataW.trod, hi, hx]
  have := trod_struct_mk (enc := enc) (w := w) (base := base) (spare := spare) (held := held) (n := 1) (cs := [.int .i64 y, .int .i64 m, .int .i64 k, .int .i64 j])
    (xs := [(.lit (.int .i64 y), []), (.lit (.int .i64 m), []), (.lit (.int .i64 k), []), (.lit (.int .i64 j), [])]) hs (by simp [hC])
    (by simp [hc, t0, t1, t2, t3, o0, o1, o2, o3, one y w0, one m w1, one k w2, one j w3])
  exact ⟨_, by simpa [Value.cells] using this⟩
end
section
variable {H : Type} {enc : TypeId × Value → H} {w : World} {base : Nat} {spare : Nat → Bool} {held : Bool}
set_option maxRecDepth 100000 in
theorem open_turn {r : Reach} {b0 : Nat} {v : Value} {d : DataW H} {p : List MemPlace} (hv : Value.okWide Tryz.prog w r b0 31 v) (h : DataW.Trod enc Tryz.prog w base spare held 31 v d p) :
    ∃ y m k j : Int, v = .agg #[.int .i64 y, .int .i64 m, .int .i64 k, .int .i64 j] ∧ d = .agg [.lit (.int .i64 y), .lit (.int .i64 m), .lit (.int .i64 k), .lit (.int .i64 j)] ∧ p = [] ∧
      Lit.wf (.int .i64 y) = true ∧ Lit.wf (.int .i64 m) = true ∧ Lit.wf (.int .i64 k) = true ∧ Lit.wf (.int .i64 j) = true :=
  open_four Tryz.underlying31 Tryz.underlying3 turnCells intCells4T rfl rfl rfl rfl rfl rfl rfl rfl hv h
set_option maxRecDepth 100000 in
theorem shut_turn {y m k j : Int} (w0 : Lit.wf (.int .i64 y) = true) (w1 : Lit.wf (.int .i64 m) = true) (w2 : Lit.wf (.int .i64 k) = true) (w3 : Lit.wf (.int .i64 j) = true) :
    DataW.Trod enc Tryz.prog w base spare held 31 (.agg #[.int .i64 y, .int .i64 m, .int .i64 k, .int .i64 j]) (.agg [.lit (.int .i64 y), .lit (.int .i64 m), .lit (.int .i64 k), .lit (.int .i64 j)]) [] :=
  shut_four Tryz.underlying31 Tryz.underlying3 turnCells intCells4T rfl rfl rfl rfl rfl rfl rfl rfl w0 w1 w2 w3
end
end Go.Proofs.YtbjencibkkhbhabGreatDoor
