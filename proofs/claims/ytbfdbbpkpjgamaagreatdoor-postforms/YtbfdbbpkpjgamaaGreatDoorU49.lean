/- What a row's list of package-level variables gives the walks: each listed error is a pointer of its own. -/
import Derived.Test.YtbfdbbpkpjgamaaGreatDoorRows
import Derived.Test.YtbfdbbpkpjgamaaGreatDoorU29
import Derived.Stop.LaidErr
import Derived.LaidByTextLater
namespace Go.Proofs.YtbfdbbpkpjgamaaGreatDoor
open Go.RowKit

theorem errStar : "*" ++ "errors.errorString" = "*errors.errorString" := by decide
theorem errRow (u : TypeId) (h : Tryz.prog.typeName? 3 u = some "*errors.errorString") : u = 252 :=
  typeName_ptr_named (nm := "errors.errorString") (by rw [errStar]; kernel_rfl) (by kernel_rfl) (by decide) u (by rw [errStar]; exact h)
theorem errCells : Tryz.prog.cellsOf 276 = 1 := by kernel_rfl
theorem strCells : Tryz.prog.cellsOf 9 = 1 := by kernel_rfl

/-- The first listed variable, where it is an error of the make of errors.New, of whatever program. -/
theorem laid_head_any {P : Program} {n nm : String} {text : List UInt8} {r : List (String × DataW Unit)} {W : World} {g : Nat} {ti tp te ts : TypeId} {ms : Array (String × TypeId)} {f : Field}
    (h : laidMet P ((n, .iface nm (.ptr (.agg [.lit (.string text)]))) :: r) W)
    (hg : P.globalNamed n = some g) (ht : (P.globals[g]?).map (·.type) = some ti) (hi : P.underlying ti = some (.interface ms)) (hrow : ∀ u, P.typeName? 3 u = some nm → u = tp)
    (hp : P.underlying tp = some (.pointer te)) (he : P.underlying te = some (.struct #[f])) (hft : f.type = ts) (hfo : f.offset = 0) (hs : P.underlying ts = some .string) (hc : P.cellsOf te = 1) (hcs : P.cellsOf ts = 1) :
    ∃ (a : Addr) (s : ByteArray) (c : Array Value) (t : TypeId), W.cell? ⟨g, 0, none⟩ = some (.iface tp (.pointer (some a))) ∧ W.cell? a = some (.string s) ∧ s.data.toList = text ∧ W.heap[a.block]? = some (.cells c t (0, 0)) ∧ g < W.heap.size := by
  obtain ⟨ps, ⟨g0, t0, cs0, f0, p0, q0, hg0, ht0, hv0, hd0, _, e0⟩, _, hrows⟩ := h
  obtain rfl := Option.some.inj (hg.symm.trans hg0)
  obtain rfl := Option.some.inj (ht.symm.trans ht0)
  subst e0
  obtain ⟨l0⟩ := cs0
  have ok0 : ∀ u v, l0 = [.iface u v] → Value.okWide P W .any 0 u v := fun u v e => by
    subst e
    exact (hrows g 0 (by simp [MemPlace.row])).2 u v (by simpa using World.var?_cell hg0 hv0 0)
  obtain ⟨a0, s0, rfl, hc0, hs0, hz0, rfl⟩ := errorString_of_trod hi hrow hp he hft hfo hs hc hcs hd0 ok0
  obtain ⟨c0, t0, hb0⟩ := (hrows a0.block a0.off (by simp [MemPlace.row])).1
  obtain ⟨c1, t1, hb1⟩ := (hrows g 0 (by simp [MemPlace.row])).1
  exact ⟨a0, s0, c0, t0, by simpa using World.var?_cell hg0 hv0 0, hc0, hs0, hb0, blk_lt hb1⟩
theorem laid_head {n : String} {text : List UInt8} {r : List (String × DataW Unit)} {W : World} {g : Nat} (h : laidMet Tryz.prog ((n, .iface "*errors.errorString" (.ptr (.agg [.lit (.string text)]))) :: r) W)
    (hg : Tryz.prog.globalNamed n = some g) (ht : (Tryz.prog.globals[g]?).map (·.type) = some 32) :
    ∃ (a : Addr) (s : ByteArray) (c : Array Value) (t : TypeId), W.cell? ⟨g, 0, none⟩ = some (.iface 252 (.pointer (some a))) ∧ W.cell? a = some (.string s) ∧ s.data.toList = text ∧ W.heap[a.block]? = some (.cells c t (0, 0)) ∧ g < W.heap.size :=
  laid_head_any h hg ht Tryz.underlying32 errRow Tryz.underlying252 Tryz.underlying276 rfl rfl Tryz.underlying9 errCells strCells

def textErrRange : List UInt8 := match (Rows.laid_postbag_api_ErrRange : DataW Unit) with | .iface _ (.ptr (.agg [.lit (.string t)])) => t | _ => []
def textErrForm : List UInt8 := match (Rows.laid_postbag_api_ErrForm : DataW Unit) with | .iface _ (.ptr (.agg [.lit (.string t)])) => t | _ => []
def textErrLong : List UInt8 := match (Rows.laid_postbag_api_ErrLong : DataW Unit) with | .iface _ (.ptr (.agg [.lit (.string t)])) => t | _ => []
def textErrName : List UInt8 := match (Rows.laid_postbag_api_ErrName : DataW Unit) with | .iface _ (.ptr (.agg [.lit (.string t)])) => t | _ => []
def textErrNone : List UInt8 := match (Rows.laid_postbag_api_ErrNone : DataW Unit) with | .iface _ (.ptr (.agg [.lit (.string t)])) => t | _ => []
def textErrExists : List UInt8 := match (Rows.laid_postbag_api_ErrExists : DataW Unit) with | .iface _ (.ptr (.agg [.lit (.string t)])) => t | _ => []
def textErrQuota : List UInt8 := match (Rows.laid_postbag_api_ErrQuota : DataW Unit) with | .iface _ (.ptr (.agg [.lit (.string t)])) => t | _ => []
def textErrPower : List UInt8 := match (Rows.laid_postbag_api_ErrPower : DataW Unit) with | .iface _ (.ptr (.agg [.lit (.string t)])) => t | _ => []
def textErrState : List UInt8 := match (Rows.laid_postbag_api_ErrState : DataW Unit) with | .iface _ (.ptr (.agg [.lit (.string t)])) => t | _ => []
def textErrSum : List UInt8 := match (Rows.laid_postbag_api_ErrSum : DataW Unit) with | .iface _ (.ptr (.agg [.lit (.string t)])) => t | _ => []
def textErrFull : List UInt8 := match (Rows.laid_postbag_api_ErrFull : DataW Unit) with | .iface _ (.ptr (.agg [.lit (.string t)])) => t | _ => []
def textErrDepth : List UInt8 := match (Rows.laid_postbag_api_ErrDepth : DataW Unit) with | .iface _ (.ptr (.agg [.lit (.string t)])) => t | _ => []
def textErrUser : List UInt8 := match (Rows.laid_postbag_api_ErrUser : DataW Unit) with | .iface _ (.ptr (.agg [.lit (.string t)])) => t | _ => []
def errTexts : List (List UInt8) := [textErrRange, textErrForm, textErrLong, textErrName, textErrNone, textErrExists, textErrQuota, textErrPower, textErrState, textErrSum, textErrFull, textErrDepth, textErrUser]
theorem errTexts_ne : ∀ i, i < 13 → ∀ j, j < 13 → errTexts.getD i [] = errTexts.getD j [] → i = j := by decide

theorem errs_of_laid {W : World} (h : laidMet Tryz.prog (Rows.postFormsRow.laid.drop 1) W) : ∃ a, Errs W a := by
  obtain ⟨a0, s0, c0, t0, x0, y0, z0, b0, l0⟩ := laid_head (text := textErrRange) (g := 1) h (by kernel_rfl) (by kernel_rfl)
  replace h := laidMet.tail h
  obtain ⟨a1, s1, c1, t1, x1, y1, z1, b1, l1⟩ := laid_head (text := textErrForm) (g := 0) h (by kernel_rfl) (by kernel_rfl)
  replace h := laidMet.tail h
  obtain ⟨a2, s2, c2, t2, x2, y2, z2, b2, l2⟩ := laid_head (text := textErrLong) (g := 2) h (by kernel_rfl) (by kernel_rfl)
  replace h := laidMet.tail h
  obtain ⟨a3, s3, c3, t3, x3, y3, z3, b3, l3⟩ := laid_head (text := textErrName) (g := 3) h (by kernel_rfl) (by kernel_rfl)
  replace h := laidMet.tail h
  obtain ⟨a4, s4, c4, t4, x4, y4, z4, b4, l4⟩ := laid_head (text := textErrNone) (g := 4) h (by kernel_rfl) (by kernel_rfl)
  replace h := laidMet.tail h
  obtain ⟨a5, s5, c5, t5, x5, y5, z5, b5, l5⟩ := laid_head (text := textErrExists) (g := 5) h (by kernel_rfl) (by kernel_rfl)
  replace h := laidMet.tail h
  obtain ⟨a6, s6, c6, t6, x6, y6, z6, b6, l6⟩ := laid_head (text := textErrQuota) (g := 6) h (by kernel_rfl) (by kernel_rfl)
  replace h := laidMet.tail h
  obtain ⟨a7, s7, c7, t7, x7, y7, z7, b7, l7⟩ := laid_head (text := textErrPower) (g := 7) h (by kernel_rfl) (by kernel_rfl)
  replace h := laidMet.tail h
  obtain ⟨a8, s8, c8, t8, x8, y8, z8, b8, l8⟩ := laid_head (text := textErrState) (g := 8) h (by kernel_rfl) (by kernel_rfl)
  replace h := laidMet.tail h
  obtain ⟨a9, s9, c9, t9, x9, y9, z9, b9, l9⟩ := laid_head (text := textErrSum) (g := 9) h (by kernel_rfl) (by kernel_rfl)
  replace h := laidMet.tail h
  obtain ⟨a10, s10, c10, t10, x10, y10, z10, b10, l10⟩ := laid_head (text := textErrFull) (g := 10) h (by kernel_rfl) (by kernel_rfl)
  replace h := laidMet.tail h
  obtain ⟨a11, s11, c11, t11, x11, y11, z11, b11, l11⟩ := laid_head (text := textErrDepth) (g := 11) h (by kernel_rfl) (by kernel_rfl)
  replace h := laidMet.tail h
  obtain ⟨a12, s12, c12, t12, x12, y12, z12, b12, l12⟩ := laid_head (text := textErrUser) (g := 12) h (by kernel_rfl) (by kernel_rfl)
  have key : ∀ i, i < 13 → ∃ s c t, W.cell? ⟨gno i, 0, none⟩ = some (.iface 252 (.pointer (some ([a0, a1, a2, a3, a4, a5, a6, a7, a8, a9, a10, a11, a12].getD i default)))) ∧ W.cell? ([a0, a1, a2, a3, a4, a5, a6, a7, a8, a9, a10, a11, a12].getD i default) = some (.string s) ∧ s.data.toList = errTexts.getD i [] ∧ W.heap[([a0, a1, a2, a3, a4, a5, a6, a7, a8, a9, a10, a11, a12].getD i default).block]? = some (.cells c t (0, 0)) ∧ gno i < W.heap.size := by
    intro i hi
    have hh : i = 0 ∨ i = 1 ∨ i = 2 ∨ i = 3 ∨ i = 4 ∨ i = 5 ∨ i = 6 ∨ i = 7 ∨ i = 8 ∨ i = 9 ∨ i = 10 ∨ i = 11 ∨ i = 12 := by omega
    rcases hh with rfl | rfl | rfl | rfl | rfl | rfl | rfl | rfl | rfl | rfl | rfl | rfl | rfl
    · exact ⟨s0, c0, t0, x0, y0, z0, b0, l0⟩
    · exact ⟨s1, c1, t1, x1, y1, z1, b1, l1⟩
    · exact ⟨s2, c2, t2, x2, y2, z2, b2, l2⟩
    · exact ⟨s3, c3, t3, x3, y3, z3, b3, l3⟩
    · exact ⟨s4, c4, t4, x4, y4, z4, b4, l4⟩
    · exact ⟨s5, c5, t5, x5, y5, z5, b5, l5⟩
    · exact ⟨s6, c6, t6, x6, y6, z6, b6, l6⟩
    · exact ⟨s7, c7, t7, x7, y7, z7, b7, l7⟩
    · exact ⟨s8, c8, t8, x8, y8, z8, b8, l8⟩
    · exact ⟨s9, c9, t9, x9, y9, z9, b9, l9⟩
    · exact ⟨s10, c10, t10, x10, y10, z10, b10, l10⟩
    · exact ⟨s11, c11, t11, x11, y11, z11, b11, l11⟩
    · exact ⟨s12, c12, t12, x12, y12, z12, b12, l12⟩
  refine ⟨fun i => [a0, a1, a2, a3, a4, a5, a6, a7, a8, a9, a10, a11, a12].getD i default, ⟨fun i hi => ?_, fun i hi => ?_, fun i j hi hj hne e => ?_, fun i hi => ?_⟩⟩
  · obtain ⟨_, _, _, p, _⟩ := key i hi; exact p
  · obtain ⟨_, _, _, _, _, _, _, p⟩ := key i hi; exact p
  · obtain ⟨s, _, _, _, p, q, _⟩ := key i hi
    obtain ⟨s', _, _, _, p', q', _⟩ := key j hj
    rw [show [a0, a1, a2, a3, a4, a5, a6, a7, a8, a9, a10, a11, a12].getD i default = [a0, a1, a2, a3, a4, a5, a6, a7, a8, a9, a10, a11, a12].getD j default from e] at p
    have es : s = s' := by
      have := p.symm.trans p'
      simpa using this
    exact hne (errTexts_ne i hi j hj (by rw [← q, ← q', es]))
  · obtain ⟨_, c, t, _, _, _, p, _⟩ := key i hi; exact ⟨c, t, p⟩
end Go.Proofs.YtbfdbbpkpjgamaaGreatDoor
