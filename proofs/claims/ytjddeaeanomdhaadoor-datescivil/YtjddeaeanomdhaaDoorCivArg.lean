/- A date as an argument: seven numbers, opened and shut. -/
import Derived.Test.YtjddeaeanomdhaaDoorProg
import Derived.ProofKit
import Derived.OpenShut
namespace Go.Proofs.YtjddeaeanomdhaaDoor
open Go.ChangeShapes Go.WideShapes Go.ChangeAt Go.RowKit

theorem array7 {α : Type} {cs : Array α} (h : cs.size = 7) : ∃ c0 c1 c2 c3 c4 c5 c6, cs = #[c0, c1, c2, c3, c4, c5, c6] := by
  obtain ⟨l⟩ := cs
  match l, h with
  | [c0, c1, c2, c3, c4, c5, c6], _ => exact ⟨c0, c1, c2, c3, c4, c5, c6, rfl⟩
theorem list7 {α : Type} {l : List α} (h : l.length = 7) : ∃ c0 c1 c2 c3 c4 c5 c6, l = [c0, c1, c2, c3, c4, c5, c6] := by
  match l, h with
  | [c0, c1, c2, c3, c4, c5, c6], _ => exact ⟨c0, c1, c2, c3, c4, c5, c6, rfl⟩
theorem civCells : Tryd.prog.cellsOf 23 = 7 := by kernel_rfl
theorem intCells : Tryd.prog.cellsOf 3 = 1 := by kernel_rfl

section
variable {P : Program} {T ti : TypeId} {f0 f1 f2 f3 f4 f5 f6 : Field} {H : Type} {enc : TypeId × Value → H} {w : World} {base : Nat} {spare : Nat → Bool} {held : Bool}
theorem open_seven {r : Reach} {b0 : Nat} {v : Value} {d : DataW H} {p : List MemPlace} (hs : P.underlying T = some (.struct #[f0, f1, f2, f3, f4, f5, f6])) (hi : P.underlying ti = some (.int .i64)) (hC : P.cellsOf T = 7) (hc : P.cellsOf ti = 1) (t0 : f0.type = ti) (o0 : f0.offset = 0) (t1 : f1.type = ti) (o1 : f1.offset = 1) (t2 : f2.type = ti) (o2 : f2.offset = 2) (t3 : f3.type = ti) (o3 : f3.offset = 3) (t4 : f4.type = ti) (o4 : f4.offset = 4) (t5 : f5.type = ti) (o5 : f5.offset = 5) (t6 : f6.type = ti) (o6 : f6.offset = 6) (hv : Value.okWide P w r b0 T v) (h : DataW.Trod enc P w base spare held T v d p) :
    ∃ y m k h mi s wk : Int, v = .agg #[.int .i64 y, .int .i64 m, .int .i64 k, .int .i64 h, .int .i64 mi, .int .i64 s, .int .i64 wk] ∧
      d = .agg [.lit (.int .i64 y), .lit (.int .i64 m), .lit (.int .i64 k), .lit (.int .i64 h), .lit (.int .i64 mi), .lit (.int .i64 s), .lit (.int .i64 wk)] ∧ p = [] ∧
      Lit.wf (.int .i64 y) = true ∧ Lit.wf (.int .i64 m) = true ∧ Lit.wf (.int .i64 k) = true ∧ Lit.wf (.int .i64 h) = true ∧ Lit.wf (.int .i64 mi) = true ∧ Lit.wf (.int .i64 s) = true ∧ Lit.wf (.int .i64 wk) = true := by
  obtain ⟨cs, rfl, hsz⟩ := okWide_struct hs hv
  obtain ⟨c0, c1, c2, c3, c4, c5, c6, rfl⟩ := array7 (hsz.trans hC)
  obtain ⟨fuel, hf⟩ := h
  obtain ⟨xs, n, _, hx, hl, hlen, hfs⟩ := DataW.trod_struct hs hf
  obtain ⟨y0, y1, y2, y3, y4, y5, y6, rfl⟩ := list7 hlen
  have g0 := hfs 0 f0 rfl
  have g1 := hfs 1 f1 rfl
  have g2 := hfs 2 f2 rfl
  have g3 := hfs 3 f3 rfl
  have g4 := hfs 4 f4 rfl
  have g5 := hfs 5 f5 rfl
  have g6 := hfs 6 f6 rfl
  simp only [t0, t1, t2, t3, t4, t5, t6, o0, o1, o2, o3, o4, o5, o6, hc] at g0 g1 g2 g3 g4 g5 g6
  obtain ⟨z0, e0, e0', w0⟩ := DataW.trod_int hi g0
  obtain ⟨z1, e1, e1', w1⟩ := DataW.trod_int hi g1
  obtain ⟨z2, e2, e2', w2⟩ := DataW.trod_int hi g2
  obtain ⟨z3, e3, e3', w3⟩ := DataW.trod_int hi g3
  obtain ⟨z4, e4, e4', w4⟩ := DataW.trod_int hi g4
  obtain ⟨z5, e5, e5', w5⟩ := DataW.trod_int hi g5
  obtain ⟨z6, e6, e6', w6⟩ := DataW.trod_int hi g6
  simp [Value.cells] at e0 e1 e2 e3 e4 e5 e6
  subst e0 e1 e2 e3 e4 e5 e6 e0' e1' e2' e3' e4' e5' e6'
  simp only [Prod.mk.injEq] at hx
  exact ⟨z0, z1, z2, z3, z4, z5, z6, rfl, hx.1, hx.2, w0, w1, w2, w3, w4, w5, w6⟩
theorem shut_seven {y m k h mi s wk : Int} (hs : P.underlying T = some (.struct #[f0, f1, f2, f3, f4, f5, f6])) (hi : P.underlying ti = some (.int .i64)) (hC : P.cellsOf T = 7) (hc : P.cellsOf ti = 1) (t0 : f0.type = ti) (o0 : f0.offset = 0) (t1 : f1.type = ti) (o1 : f1.offset = 1) (t2 : f2.type = ti) (o2 : f2.offset = 2) (t3 : f3.type = ti) (o3 : f3.offset = 3) (t4 : f4.type = ti) (o4 : f4.offset = 4) (t5 : f5.type = ti) (o5 : f5.offset = 5) (t6 : f6.type = ti) (o6 : f6.offset = 6) (w0 : Lit.wf (.int .i64 y) = true) (w1 : Lit.wf (.int .i64 m) = true) (w2 : Lit.wf (.int .i64 k) = true) (w3 : Lit.wf (.int .i64 h) = true) (w4 : Lit.wf (.int .i64 mi) = true) (w5 : Lit.wf (.int .i64 s) = true) (w6 : Lit.wf (.int .i64 wk) = true) :
    DataW.Trod enc P w base spare held T (.agg #[.int .i64 y, .int .i64 m, .int .i64 k, .int .i64 h, .int .i64 mi, .int .i64 s, .int .i64 wk])
      (.agg [.lit (.int .i64 y), .lit (.int .i64 m), .lit (.int .i64 k), .lit (.int .i64 h), .lit (.int .i64 mi), .lit (.int .i64 s), .lit (.int .i64 wk)]) [] := by
  have one : ∀ x : Int, Lit.wf (.int .i64 x) = true → DataW.trod enc P w base spare held 1 ti [.int .i64 x] = some (.lit (.int .i64 x), []) := fun x hx => by
    simp [DataW.trod, hi, hx]
  have := trod_struct_mk (enc := enc) (w := w) (base := base) (spare := spare) (held := held) (n := 1) (cs := [.int .i64 y, .int .i64 m, .int .i64 k, .int .i64 h, .int .i64 mi, .int .i64 s, .int .i64 wk])
    (xs := [(.lit (.int .i64 y), []), (.lit (.int .i64 m), []), (.lit (.int .i64 k), []), (.lit (.int .i64 h), []), (.lit (.int .i64 mi), []), (.lit (.int .i64 s), []), (.lit (.int .i64 wk), [])]) hs (by simp [hC])
    (by simp [hc, t0, t1, t2, t3, t4, t5, t6, o0, o1, o2, o3, o4, o5, o6, one y w0, one m w1, one k w2, one h w3, one mi w4, one s w5, one wk w6])
  exact ⟨_, by simpa [Value.cells] using this⟩
end
section
variable {H : Type} {enc : TypeId × Value → H} {w : World} {base : Nat} {spare : Nat → Bool} {held : Bool}
set_option maxRecDepth 100000 in
theorem open_civ {r : Reach} {b0 : Nat} {v : Value} {d : DataW H} {p : List MemPlace} (hv : Value.okWide Tryd.prog w r b0 23 v) (h : DataW.Trod enc Tryd.prog w base spare held 23 v d p) :
    ∃ y m k h mi s wk : Int, v = .agg #[.int .i64 y, .int .i64 m, .int .i64 k, .int .i64 h, .int .i64 mi, .int .i64 s, .int .i64 wk] ∧
      d = .agg [.lit (.int .i64 y), .lit (.int .i64 m), .lit (.int .i64 k), .lit (.int .i64 h), .lit (.int .i64 mi), .lit (.int .i64 s), .lit (.int .i64 wk)] ∧ p = [] ∧
      Lit.wf (.int .i64 y) = true ∧ Lit.wf (.int .i64 m) = true ∧ Lit.wf (.int .i64 k) = true ∧ Lit.wf (.int .i64 h) = true ∧ Lit.wf (.int .i64 mi) = true ∧ Lit.wf (.int .i64 s) = true ∧ Lit.wf (.int .i64 wk) = true :=
  open_seven Tryd.underlying23 Tryd.underlying3 civCells intCells rfl rfl rfl rfl rfl rfl rfl rfl rfl rfl rfl rfl rfl rfl hv h
set_option maxRecDepth 100000 in
theorem shut_civ {y m k h mi s wk : Int} (w0 : Lit.wf (.int .i64 y) = true) (w1 : Lit.wf (.int .i64 m) = true) (w2 : Lit.wf (.int .i64 k) = true) (w3 : Lit.wf (.int .i64 h) = true) (w4 : Lit.wf (.int .i64 mi) = true) (w5 : Lit.wf (.int .i64 s) = true) (w6 : Lit.wf (.int .i64 wk) = true) :
    DataW.Trod enc Tryd.prog w base spare held 23 (.agg #[.int .i64 y, .int .i64 m, .int .i64 k, .int .i64 h, .int .i64 mi, .int .i64 s, .int .i64 wk])
      (.agg [.lit (.int .i64 y), .lit (.int .i64 m), .lit (.int .i64 k), .lit (.int .i64 h), .lit (.int .i64 mi), .lit (.int .i64 s), .lit (.int .i64 wk)]) [] :=
  shut_seven Tryd.underlying23 Tryd.underlying3 civCells intCells rfl rfl rfl rfl rfl rfl rfl rfl rfl rfl rfl rfl rfl rfl w0 w1 w2 w3 w4 w5 w6
end
end Go.Proofs.YtjddeaeanomdhaaDoor
