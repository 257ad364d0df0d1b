/- What a row's list of package-level variables gives the walks: each listed error is a pointer of its own. -/
import Derived.Test.YtdbmaobjikjifaaGreatDoorRRows
import Derived.Test.YtdbmaobjikjifaaGreatDoorRU28
import Derived.Stop.LaidErr
import Derived.LaidByTextLater
namespace Go.Proofs.YtdbmaobjikjifaaGreatDoorR
open Go.RowKit

theorem errStar : "*" ++ "errors.errorString" = "*errors.errorString" := by decide
theorem errRow (u : TypeId) (h : Tryz.prog.typeName? 3 u = some "*errors.errorString") : u = 216 :=
  typeName_ptr_named (nm := "errors.errorString") (by rw [errStar]; kernel_rfl) (by kernel_rfl) (by decide) u (by rw [errStar]; exact h)
theorem errCells : Tryz.prog.cellsOf 232 = 1 := by kernel_rfl
theorem strCells : Tryz.prog.cellsOf 9 = 1 := by kernel_rfl

/-- The first listed variable, where it is an error of the make of errors.New, of whatever program. -/
theorem laid_head_any {P : Program} {n nm : String} {text : List UInt8} {r : List (String × DataW Unit)} {W : World} {g : Nat} {ti tp te ts : TypeId} {ms : Array (String × TypeId)} {f : Field}
    (h : laidMet P ((n, .iface nm (.ptr (.agg [.lit (.string text)]))) :: r) W)
    (hg : P.globalNamed n = some g) (ht : (P.globals[g]?).map (·.type) = some ti) (hi : P.underlying ti = some (.interface ms)) (hrow : ∀ u, P.typeName? 3 u = some nm → u = tp)
    (hp : P.underlying tp = some (.pointer te)) (he : P.underlying te = some (.struct #[f])) (hft : f.type = ts) (hfo : f.offset = 0) (hs : P.underlying ts = some .string) (hc : P.cellsOf te = 1) (hcs : P.cellsOf ts = 1) :
    ∃ (a : Addr) (s : ByteArray) (c : Array Value) (t : TypeId), W.cell? ⟨g, 0, none⟩ = some (.iface tp (.pointer (some a))) ∧ W.cell? a = some (.string s) ∧ s.data.toList = text ∧ W.heap[a.block]? = some (.cells c t (0, 0)) ∧ g < W.heap.size := by
  obtain ⟨ps, ⟨g0, t0, cs0, f0, p0, q0, hg0, ht0, hv0, hd0, _, e0⟩, _, hrows⟩ := h
  obtain rfl := Option.some.inj (hg.symm.trans hg0)
  obtain rfl := Option.some.inj (ht.symm.trans ht0)
  subst e0
  obtain ⟨l0⟩ := cs0
  have ok0 : ∀ u v, l0 = [.iface u v] → Value.okWide P W .any 0 u v := fun u v e => by
    subst e
    exact (hrows g 0 (by simp [MemPlace.row])).2 u v (by simpa using World.var?_cell hg0 hv0 0)
  obtain ⟨a0, s0, rfl, hc0, hs0, hz0, rfl⟩ := errorString_of_trod hi hrow hp he hft hfo hs hc hcs hd0 ok0
  obtain ⟨c0, t0, hb0⟩ := (hrows a0.block a0.off (by simp [MemPlace.row])).1
  obtain ⟨c1, t1, hb1⟩ := (hrows g 0 (by simp [MemPlace.row])).1
  exact ⟨a0, s0, c0, t0, by simpa using World.var?_cell hg0 hv0 0, hc0, hs0, hb0, blk_lt hb1⟩
theorem laid_head {n : String} {text : List UInt8} {r : List (String × DataW Unit)} {W : World} {g : Nat} (h : laidMet Tryz.prog ((n, .iface "*errors.errorString" (.ptr (.agg [.lit (.string text)]))) :: r) W)
    (hg : Tryz.prog.globalNamed n = some g) (ht : (Tryz.prog.globals[g]?).map (·.type) = some 30) :
    ∃ (a : Addr) (s : ByteArray) (c : Array Value) (t : TypeId), W.cell? ⟨g, 0, none⟩ = some (.iface 216 (.pointer (some a))) ∧ W.cell? a = some (.string s) ∧ s.data.toList = text ∧ W.heap[a.block]? = some (.cells c t (0, 0)) ∧ g < W.heap.size :=
  laid_head_any h hg ht Tryz.underlying30 errRow Tryz.underlying216 Tryz.underlying232 rfl rfl Tryz.underlying9 errCells strCells


def textErrRange : List UInt8 := match (Rows.laid_postbag_api_ErrRange : DataW Unit) with | .iface _ (.ptr (.agg [.lit (.string t)])) => t | _ => []
def textErrForm : List UInt8 := match (Rows.laid_postbag_api_ErrForm : DataW Unit) with | .iface _ (.ptr (.agg [.lit (.string t)])) => t | _ => []
def textErrLong : List UInt8 := match (Rows.laid_postbag_api_ErrLong : DataW Unit) with | .iface _ (.ptr (.agg [.lit (.string t)])) => t | _ => []
def textErrName : List UInt8 := match (Rows.laid_postbag_api_ErrName : DataW Unit) with | .iface _ (.ptr (.agg [.lit (.string t)])) => t | _ => []
def textErrNone : List UInt8 := match (Rows.laid_postbag_api_ErrNone : DataW Unit) with | .iface _ (.ptr (.agg [.lit (.string t)])) => t | _ => []
def textErrExists : List UInt8 := match (Rows.laid_postbag_api_ErrExists : DataW Unit) with | .iface _ (.ptr (.agg [.lit (.string t)])) => t | _ => []
def textErrFull : List UInt8 := match (Rows.laid_postbag_api_ErrFull : DataW Unit) with | .iface _ (.ptr (.agg [.lit (.string t)])) => t | _ => []
def textErrUser : List UInt8 := match (Rows.laid_postbag_api_ErrUser : DataW Unit) with | .iface _ (.ptr (.agg [.lit (.string t)])) => t | _ => []
theorem errs_of_laid {W : World} (h : laidMet Tryz.prog (Rows.postCopiesRow.laid.drop 1) W) : ∃ a, Errs W a := by
  obtain ⟨a0, s0, c0, t0, x0, y0, z0, b0, l0⟩ := laid_head (text := textErrRange) (g := 0) h (by kernel_rfl) (by kernel_rfl)
  replace h := laidMet.tail h
  obtain ⟨a1, s1, c1, t1, x1, y1, z1, b1, l1⟩ := laid_head (text := textErrForm) (g := 1) h (by kernel_rfl) (by kernel_rfl)
  replace h := laidMet.tail h
  obtain ⟨a2, s2, c2, t2, x2, y2, z2, b2, l2⟩ := laid_head (text := textErrLong) (g := 7) h (by kernel_rfl) (by kernel_rfl)
  replace h := laidMet.tail h
  obtain ⟨a3, s3, c3, t3, x3, y3, z3, b3, l3⟩ := laid_head (text := textErrName) (g := 3) h (by kernel_rfl) (by kernel_rfl)
  replace h := laidMet.tail h
  obtain ⟨a4, s4, c4, t4, x4, y4, z4, b4, l4⟩ := laid_head (text := textErrNone) (g := 6) h (by kernel_rfl) (by kernel_rfl)
  replace h := laidMet.tail h
  obtain ⟨a5, s5, c5, t5, x5, y5, z5, b5, l5⟩ := laid_head (text := textErrExists) (g := 4) h (by kernel_rfl) (by kernel_rfl)
  replace h := laidMet.tail h
  obtain ⟨a6, s6, c6, t6, x6, y6, z6, b6, l6⟩ := laid_head (text := textErrFull) (g := 5) h (by kernel_rfl) (by kernel_rfl)
  replace h := laidMet.tail h
  obtain ⟨a7, s7, c7, t7, x7, y7, z7, b7, l7⟩ := laid_head (text := textErrUser) (g := 2) h (by kernel_rfl) (by kernel_rfl)
  have key : ∀ i, i < 13 → ∃ c t, W.cell? ⟨gno i, 0, none⟩ = some (.iface 216 (.pointer (some ([a0, a1, a2, a3, a4, a5, a0, a0, a0, a0, a6, a0, a7].getD i default)))) ∧ W.heap[([a0, a1, a2, a3, a4, a5, a0, a0, a0, a0, a6, a0, a7].getD i default).block]? = some (.cells c t (0, 0)) ∧ gno i < W.heap.size := by
    intro i hi
    have hh : i = 0 ∨ i = 1 ∨ i = 2 ∨ i = 3 ∨ i = 4 ∨ i = 5 ∨ i = 6 ∨ i = 7 ∨ i = 8 ∨ i = 9 ∨ i = 10 ∨ i = 11 ∨ i = 12 := by omega
    rcases hh with rfl | rfl | rfl | rfl | rfl | rfl | rfl | rfl | rfl | rfl | rfl | rfl | rfl
    · exact ⟨c0, t0, x0, b0, l0⟩
    · exact ⟨c1, t1, x1, b1, l1⟩
    · exact ⟨c2, t2, x2, b2, l2⟩
    · exact ⟨c3, t3, x3, b3, l3⟩
    · exact ⟨c4, t4, x4, b4, l4⟩
    · exact ⟨c5, t5, x5, b5, l5⟩
    · exact ⟨c0, t0, x0, b0, l0⟩
    · exact ⟨c0, t0, x0, b0, l0⟩
    · exact ⟨c0, t0, x0, b0, l0⟩
    · exact ⟨c0, t0, x0, b0, l0⟩
    · exact ⟨c6, t6, x6, b6, l6⟩
    · exact ⟨c0, t0, x0, b0, l0⟩
    · exact ⟨c7, t7, x7, b7, l7⟩
  refine ⟨fun i => [a0, a1, a2, a3, a4, a5, a0, a0, a0, a0, a6, a0, a7].getD i default, ⟨fun i hi => ?_, fun i hi => ?_, fun i hi => ?_⟩⟩
  · obtain ⟨_, _, p, _, _⟩ := key i hi; exact p
  · obtain ⟨_, _, _, _, p⟩ := key i hi; exact p
  · obtain ⟨c, t, _, p, _⟩ := key i hi; exact ⟨c, t, p⟩
end Go.Proofs.YtdbmaobjikjifaaGreatDoorR
