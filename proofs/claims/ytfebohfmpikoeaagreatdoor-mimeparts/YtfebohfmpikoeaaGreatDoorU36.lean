/- The numbers of errors: postbagnum.Num at nil and at each of package api's thirteen values. -/
/- What a row's list of package-level variables gives the walks: each listed error is a pointer of its own. -/
import Derived.Test.YtfebohfmpikoeaaGreatDoorU35
import Derived.Test.YtfebohfmpikoeaaGreatDoorRows
import Derived.Stop.LaidErr
import Derived.LaidByTextLater
section
namespace Go.Proofs.YtfebohfmpikoeaaGreatDoor
open Go.RowKit

/-- The package-level variables that hold the thirteen errors, in the document's order. -/
def gno (i : Nat) : Nat := ([1, 0, 2, 3, 4, 5, 6, 7, 8, 9, 10, 11, 12] : List Nat).getD i 0

/-- A world in which the thirteen variables hold thirteen errors, at different places. -/
structure Errs (w : World) (a : Nat → Addr) : Prop where
  cell : ∀ i, i < 13 → w.cell? ⟨gno i, 0, none⟩ = some (.iface 186 (.pointer (some (a i))))
  low : ∀ i, i < 13 → gno i < w.heap.size
  ne : ∀ i j, i < 13 → j < 13 → i ≠ j → a i ≠ a j
  blk : ∀ i, i < 13 → ∃ c t, w.heap[(a i).block]? = some (.cells c t (0, 0))

theorem blk_lt {w : World} {k : Nat} {o : Obj} (h : w.heap[k]? = some o) : k < w.heap.size := (Array.getElem?_eq_some_iff.1 h).1

theorem Errs.below {w w' : World} {a : Nat → Addr} (h : Errs w a) (hb : Below w.heap.size w w') : Errs w' a where
  cell := fun i hi => by rw [hb.cell (p := ⟨gno i, 0, none⟩) (h.low i hi)]; exact h.cell i hi
  low := fun i hi => Nat.lt_of_lt_of_le (h.low i hi) hb.size
  ne := h.ne
  blk := fun i hi => by
    obtain ⟨c, t, k⟩ := h.blk i hi
    exact ⟨c, t, by rw [hb.block _ (blk_lt k)]; exact k⟩

theorem num_nil (w : World) :
    Calls Tryz.prog 12 #[.nilIface] w fun e w' => e = .returned (.int .i64 0) ∧ w' = w := by
  go_enter Tryz.func12, Tryz.ntmps12
  go_wp2
  go_ret
  exact ⟨rfl, rfl⟩

def errV (a : Nat → Addr) (i : Nat) : Value := .iface 186 (.pointer (some (a i)))

set_option maxHeartbeats 2000000 in
theorem num_err (k : Nat) (hk : k < 13) (w : World) (a : Nat → Addr) (hE : Errs w a) :
    Calls Tryz.prog 12 #[.iface 186 (.pointer (some (a k)))] w fun e w' => e = .returned (.int .i64 (k + 1)) ∧ Below w.heap.size w w' := by
  have c0 : w.cell? ⟨1, 0, none⟩ = some (.iface 186 (.pointer (some (a 0)))) := hE.cell 0 (by decide)
  have c1 : w.cell? ⟨0, 0, none⟩ = some (.iface 186 (.pointer (some (a 1)))) := hE.cell 1 (by decide)
  have c2 : w.cell? ⟨2, 0, none⟩ = some (.iface 186 (.pointer (some (a 2)))) := hE.cell 2 (by decide)
  have c3 : w.cell? ⟨3, 0, none⟩ = some (.iface 186 (.pointer (some (a 3)))) := hE.cell 3 (by decide)
  have c4 : w.cell? ⟨4, 0, none⟩ = some (.iface 186 (.pointer (some (a 4)))) := hE.cell 4 (by decide)
  have c5 : w.cell? ⟨5, 0, none⟩ = some (.iface 186 (.pointer (some (a 5)))) := hE.cell 5 (by decide)
  have c6 : w.cell? ⟨6, 0, none⟩ = some (.iface 186 (.pointer (some (a 6)))) := hE.cell 6 (by decide)
  have c7 : w.cell? ⟨7, 0, none⟩ = some (.iface 186 (.pointer (some (a 7)))) := hE.cell 7 (by decide)
  have c8 : w.cell? ⟨8, 0, none⟩ = some (.iface 186 (.pointer (some (a 8)))) := hE.cell 8 (by decide)
  have c9 : w.cell? ⟨9, 0, none⟩ = some (.iface 186 (.pointer (some (a 9)))) := hE.cell 9 (by decide)
  have c10 : w.cell? ⟨10, 0, none⟩ = some (.iface 186 (.pointer (some (a 10)))) := hE.cell 10 (by decide)
  have c11 : w.cell? ⟨11, 0, none⟩ = some (.iface 186 (.pointer (some (a 11)))) := hE.cell 11 (by decide)
  have c12 : w.cell? ⟨12, 0, none⟩ = some (.iface 186 (.pointer (some (a 12)))) := hE.cell 12 (by decide)
  have hb : Below w.heap.size w (w.alloc (.cells #[.iface 186 (.pointer (some (a 0))), .iface 186 (.pointer (some (a 1))), .iface 186 (.pointer (some (a 2))), .iface 186 (.pointer (some (a 3))), .iface 186 (.pointer (some (a 4))), .iface 186 (.pointer (some (a 5))), .iface 186 (.pointer (some (a 6))), .iface 186 (.pointer (some (a 7))), .iface 186 (.pointer (some (a 8))), .iface 186 (.pointer (some (a 9))), .iface 186 (.pointer (some (a 10))), .iface 186 (.pointer (some (a 11))), .iface 186 (.pointer (some (a 12)))] 25)) := (Below.refl _ _).alloc (Nat.le_refl _) _
  have HE : Hid (Errs (w.alloc (.cells #[.iface 186 (.pointer (some (a 0))), .iface 186 (.pointer (some (a 1))), .iface 186 (.pointer (some (a 2))), .iface 186 (.pointer (some (a 3))), .iface 186 (.pointer (some (a 4))), .iface 186 (.pointer (some (a 5))), .iface 186 (.pointer (some (a 6))), .iface 186 (.pointer (some (a 7))), .iface 186 (.pointer (some (a 8))), .iface 186 (.pointer (some (a 9))), .iface 186 (.pointer (some (a 10))), .iface 186 (.pointer (some (a 11))), .iface 186 (.pointer (some (a 12)))] 25)) a) := hE.below hb
  have HB : Hid (Below w.heap.size w (w.alloc (.cells #[.iface 186 (.pointer (some (a 0))), .iface 186 (.pointer (some (a 1))), .iface 186 (.pointer (some (a 2))), .iface 186 (.pointer (some (a 3))), .iface 186 (.pointer (some (a 4))), .iface 186 (.pointer (some (a 5))), .iface 186 (.pointer (some (a 6))), .iface 186 (.pointer (some (a 7))), .iface 186 (.pointer (some (a 8))), .iface 186 (.pointer (some (a 9))), .iface 186 (.pointer (some (a 10))), .iface 186 (.pointer (some (a 11))), .iface 186 (.pointer (some (a 12)))] 25))) := hb
  have HC : Hid (∀ n, n < 13 → (w.alloc (.cells #[.iface 186 (.pointer (some (a 0))), .iface 186 (.pointer (some (a 1))), .iface 186 (.pointer (some (a 2))), .iface 186 (.pointer (some (a 3))), .iface 186 (.pointer (some (a 4))), .iface 186 (.pointer (some (a 5))), .iface 186 (.pointer (some (a 6))), .iface 186 (.pointer (some (a 7))), .iface 186 (.pointer (some (a 8))), .iface 186 (.pointer (some (a 9))), .iface 186 (.pointer (some (a 10))), .iface 186 (.pointer (some (a 11))), .iface 186 (.pointer (some (a 12)))] 25)).cell? ⟨w.heap.size, n, none⟩ = some (.iface 186 (.pointer (some (a n))))) := by
    intro n hn
    have h : n = 0 ∨ n = 1 ∨ n = 2 ∨ n = 3 ∨ n = 4 ∨ n = 5 ∨ n = 6 ∨ n = 7 ∨ n = 8 ∨ n = 9 ∨ n = 10 ∨ n = 11 ∨ n = 12 := by omega
    rcases h with rfl | rfl | rfl | rfl | rfl | rfl | rfl | rfl | rfl | rfl | rfl | rfl | rfl <;> simp
  clear hE hb
  go_enter Tryz.func12, Tryz.ntmps12
  go_wp2_with fail
  generalize w.alloc (.cells #[.iface 186 (.pointer (some (a 0))), .iface 186 (.pointer (some (a 1))), .iface 186 (.pointer (some (a 2))), .iface 186 (.pointer (some (a 3))), .iface 186 (.pointer (some (a 4))), .iface 186 (.pointer (some (a 5))), .iface 186 (.pointer (some (a 6))), .iface 186 (.pointer (some (a 7))), .iface 186 (.pointer (some (a 8))), .iface 186 (.pointer (some (a 9))), .iface 186 (.pointer (some (a 10))), .iface 186 (.pointer (some (a 11))), .iface 186 (.pointer (some (a 12)))] 25) = W at *
  clear c0 c1 c2 c3 c4 c5 c6 c7 c8 c9 c10 c11 c12
  go_loop [24] (fun i => ∃ n : Nat, n ≤ k ∧ i = .int .i64 n) (fun i => 13 - (intOf i).toNat)
  case atStart => exact ⟨0, Nat.zero_le _, rfl⟩
  case round =>
    obtain ⟨n, hn, rfl⟩ := hrel
    have hn13 : n < 13 := by omega
    have hc := HC.out n hn13
    by_cases he : n = k
    · subst he
      go_wp2_with (go_at_call 34; refine (is_same _ _).mono ?_; rintro e w' ⟨rfl, rfl⟩)
      go_ret
      exact ⟨rfl, HB.out⟩
    · have hne := HE.out.ne k n hk hn13 (by omega)
      obtain ⟨ck, tk, bk⟩ := HE.out.blk k hk
      obtain ⟨cn, tn, bn⟩ := HE.out.blk n hn13
      have HX : Hid (∀ w' : World, w' = W → Calls Tryz.prog 34 #[.iface 186 (.pointer (some (a k))), .iface 186 (.pointer (some (a n)))] w' fun e w'' => e = .returned (.bool false) ∧ w'' = w') :=
        fun w' h => by subst h; exact is_other _ _ ck cn tk tn _ hne bk bn
      clear hne bk bn
      go_wp2_with (go_at_call 34; refine (HX.out _ rfl).mono ?_; rintro e w' ⟨rfl, rfl⟩)
      go_round
      case rel => exact ⟨n + 1, by omega, by go_num⟩
      case measure => simp [intOf]; omega
end Go.Proofs.YtfebohfmpikoeaaGreatDoor

end
section
namespace Go.Proofs.YtfebohfmpikoeaaGreatDoor
open Go.RowKit

theorem errStar : "*" ++ "errors.errorString" = "*errors.errorString" := by decide
theorem errRow (u : TypeId) (h : Tryz.prog.typeName? 3 u = some "*errors.errorString") : u = 186 :=
  typeName_ptr_named (nm := "errors.errorString") (by rw [errStar]; kernel_rfl) (by kernel_rfl) (by decide) u (by rw [errStar]; exact h)
theorem errCells : Tryz.prog.cellsOf 209 = 1 := by kernel_rfl
theorem strCells : Tryz.prog.cellsOf 9 = 1 := by kernel_rfl

/-- The first listed variable, where it is an error of the make of errors.New, of whatever program. -/
theorem laid_head_any {P : Program} {n nm : String} {text : List UInt8} {r : List (String × DataW Unit)} {W : World} {g : Nat} {ti tp te ts : TypeId} {ms : Array (String × TypeId)} {f : Field}
    (h : laidMet P ((n, .iface nm (.ptr (.agg [.lit (.string text)]))) :: r) W)
    (hg : P.globalNamed n = some g) (ht : (P.globals[g]?).map (·.type) = some ti) (hi : P.underlying ti = some (.interface ms)) (hrow : ∀ u, P.typeName? 3 u = some nm → u = tp)
    (hp : P.underlying tp = some (.pointer te)) (he : P.underlying te = some (.struct #[f])) (hft : f.type = ts) (hfo : f.offset = 0) (hs : P.underlying ts = some .string) (hc : P.cellsOf te = 1) (hcs : P.cellsOf ts = 1) :
    ∃ (a : Addr) (s : ByteArray) (c : Array Value) (t : TypeId), W.cell? ⟨g, 0, none⟩ = some (.iface tp (.pointer (some a))) ∧ W.cell? a = some (.string s) ∧ s.data.toList = text ∧ W.heap[a.block]? = some (.cells c t (0, 0)) ∧ g < W.heap.size := by
  obtain ⟨ps, ⟨g0, t0, cs0, f0, p0, q0, hg0, ht0, hv0, hd0, _, e0⟩, _, hrows⟩ := h
  obtain rfl := Option.some.inj (hg.symm.trans hg0)
  obtain rfl := Option.some.inj (ht.symm.trans ht0)
  subst e0
  obtain ⟨l0⟩ := cs0
  have ok0 : ∀ u v, l0 = [.iface u v] → Value.okWide P W .any 0 u v := fun u v e => by
    subst e
    exact (hrows g 0 (by simp [MemPlace.row])).2 u v (by simpa using World.var?_cell hg0 hv0 0)
  obtain ⟨a0, s0, rfl, hc0, hs0, hz0, rfl⟩ := errorString_of_trod hi hrow hp he hft hfo hs hc hcs hd0 ok0
  obtain ⟨c0, t0, hb0⟩ := (hrows a0.block a0.off (by simp [MemPlace.row])).1
  obtain ⟨c1, t1, hb1⟩ := (hrows g 0 (by simp [MemPlace.row])).1
  exact ⟨a0, s0, c0, t0, by simpa using World.var?_cell hg0 hv0 0, hc0, hs0, hb0, blk_lt hb1⟩
theorem laid_head {n : String} {text : List UInt8} {r : List (String × DataW Unit)} {W : World} {g : Nat} (h : laidMet Tryz.prog ((n, .iface "*errors.errorString" (.ptr (.agg [.lit (.string text)]))) :: r) W)
    (hg : Tryz.prog.globalNamed n = some g) (ht : (Tryz.prog.globals[g]?).map (·.type) = some 25) :
    ∃ (a : Addr) (s : ByteArray) (c : Array Value) (t : TypeId), W.cell? ⟨g, 0, none⟩ = some (.iface 186 (.pointer (some a))) ∧ W.cell? a = some (.string s) ∧ s.data.toList = text ∧ W.heap[a.block]? = some (.cells c t (0, 0)) ∧ g < W.heap.size :=
  laid_head_any h hg ht Tryz.underlying25 errRow Tryz.underlying186 Tryz.underlying209 rfl rfl Tryz.underlying9 errCells strCells

def textErrRange : List UInt8 := match (Rows.laid_postbag_api_ErrRange : DataW Unit) with | .iface _ (.ptr (.agg [.lit (.string t)])) => t | _ => []
def textErrForm : List UInt8 := match (Rows.laid_postbag_api_ErrForm : DataW Unit) with | .iface _ (.ptr (.agg [.lit (.string t)])) => t | _ => []
def textErrLong : List UInt8 := match (Rows.laid_postbag_api_ErrLong : DataW Unit) with | .iface _ (.ptr (.agg [.lit (.string t)])) => t | _ => []
def textErrName : List UInt8 := match (Rows.laid_postbag_api_ErrName : DataW Unit) with | .iface _ (.ptr (.agg [.lit (.string t)])) => t | _ => []
def textErrNone : List UInt8 := match (Rows.laid_postbag_api_ErrNone : DataW Unit) with | .iface _ (.ptr (.agg [.lit (.string t)])) => t | _ => []
def textErrExists : List UInt8 := match (Rows.laid_postbag_api_ErrExists : DataW Unit) with | .iface _ (.ptr (.agg [.lit (.string t)])) => t | _ => []
def textErrQuota : List UInt8 := match (Rows.laid_postbag_api_ErrQuota : DataW Unit) with | .iface _ (.ptr (.agg [.lit (.string t)])) => t | _ => []
def textErrPower : List UInt8 := match (Rows.laid_postbag_api_ErrPower : DataW Unit) with | .iface _ (.ptr (.agg [.lit (.string t)])) => t | _ => []
def textErrState : List UInt8 := match (Rows.laid_postbag_api_ErrState : DataW Unit) with | .iface _ (.ptr (.agg [.lit (.string t)])) => t | _ => []
def textErrSum : List UInt8 := match (Rows.laid_postbag_api_ErrSum : DataW Unit) with | .iface _ (.ptr (.agg [.lit (.string t)])) => t | _ => []
def textErrFull : List UInt8 := match (Rows.laid_postbag_api_ErrFull : DataW Unit) with | .iface _ (.ptr (.agg [.lit (.string t)])) => t | _ => []
def textErrDepth : List UInt8 := match (Rows.laid_postbag_api_ErrDepth : DataW Unit) with | .iface _ (.ptr (.agg [.lit (.string t)])) => t | _ => []
def textErrUser : List UInt8 := match (Rows.laid_postbag_api_ErrUser : DataW Unit) with | .iface _ (.ptr (.agg [.lit (.string t)])) => t | _ => []
def errTexts : List (List UInt8) := [textErrRange, textErrForm, textErrLong, textErrName, textErrNone, textErrExists, textErrQuota, textErrPower, textErrState, textErrSum, textErrFull, textErrDepth, textErrUser]
theorem errTexts_ne : ∀ i, i < 13 → ∀ j, j < 13 → errTexts.getD i [] = errTexts.getD j [] → i = j := by decide

theorem errs_of_laid {W : World} (h : laidMet Tryz.prog (Rows.mimeTypesRow.laid.drop 4) W) : ∃ a, Errs W a := by
  obtain ⟨a0, s0, c0, t0, x0, y0, z0, b0, l0⟩ := laid_head (text := textErrRange) (g := 1) h (by kernel_rfl) (by kernel_rfl)
  replace h := laidMet.tail h
  obtain ⟨a1, s1, c1, t1, x1, y1, z1, b1, l1⟩ := laid_head (text := textErrForm) (g := 0) h (by kernel_rfl) (by kernel_rfl)
  replace h := laidMet.tail h
  obtain ⟨a2, s2, c2, t2, x2, y2, z2, b2, l2⟩ := laid_head (text := textErrLong) (g := 2) h (by kernel_rfl) (by kernel_rfl)
  replace h := laidMet.tail h
  obtain ⟨a3, s3, c3, t3, x3, y3, z3, b3, l3⟩ := laid_head (text := textErrName) (g := 3) h (by kernel_rfl) (by kernel_rfl)
  replace h := laidMet.tail h
  obtain ⟨a4, s4, c4, t4, x4, y4, z4, b4, l4⟩ := laid_head (text := textErrNone) (g := 4) h (by kernel_rfl) (by kernel_rfl)
  replace h := laidMet.tail h
  obtain ⟨a5, s5, c5, t5, x5, y5, z5, b5, l5⟩ := laid_head (text := textErrExists) (g := 5) h (by kernel_rfl) (by kernel_rfl)
  replace h := laidMet.tail h
  obtain ⟨a6, s6, c6, t6, x6, y6, z6, b6, l6⟩ := laid_head (text := textErrQuota) (g := 6) h (by kernel_rfl) (by kernel_rfl)
  replace h := laidMet.tail h
  obtain ⟨a7, s7, c7, t7, x7, y7, z7, b7, l7⟩ := laid_head (text := textErrPower) (g := 7) h (by kernel_rfl) (by kernel_rfl)
  replace h := laidMet.tail h
  obtain ⟨a8, s8, c8, t8, x8, y8, z8, b8, l8⟩ := laid_head (text := textErrState) (g := 8) h (by kernel_rfl) (by kernel_rfl)
  replace h := laidMet.tail h
  obtain ⟨a9, s9, c9, t9, x9, y9, z9, b9, l9⟩ := laid_head (text := textErrSum) (g := 9) h (by kernel_rfl) (by kernel_rfl)
  replace h := laidMet.tail h
  obtain ⟨a10, s10, c10, t10, x10, y10, z10, b10, l10⟩ := laid_head (text := textErrFull) (g := 10) h (by kernel_rfl) (by kernel_rfl)
  replace h := laidMet.tail h
  obtain ⟨a11, s11, c11, t11, x11, y11, z11, b11, l11⟩ := laid_head (text := textErrDepth) (g := 11) h (by kernel_rfl) (by kernel_rfl)
  replace h := laidMet.tail h
  obtain ⟨a12, s12, c12, t12, x12, y12, z12, b12, l12⟩ := laid_head (text := textErrUser) (g := 12) h (by kernel_rfl) (by kernel_rfl)
  have key : ∀ i, i < 13 → ∃ s c t, W.cell? ⟨gno i, 0, none⟩ = some (.iface 186 (.pointer (some ([a0, a1, a2, a3, a4, a5, a6, a7, a8, a9, a10, a11, a12].getD i default)))) ∧ W.cell? ([a0, a1, a2, a3, a4, a5, a6, a7, a8, a9, a10, a11, a12].getD i default) = some (.string s) ∧ s.data.toList = errTexts.getD i [] ∧ W.heap[([a0, a1, a2, a3, a4, a5, a6, a7, a8, a9, a10, a11, a12].getD i default).block]? = some (.cells c t (0, 0)) ∧ gno i < W.heap.size := by
    intro i hi
    have hh : i = 0 ∨ i = 1 ∨ i = 2 ∨ i = 3 ∨ i = 4 ∨ i = 5 ∨ i = 6 ∨ i = 7 ∨ i = 8 ∨ i = 9 ∨ i = 10 ∨ i = 11 ∨ i = 12 := by omega
    rcases hh with rfl | rfl | rfl | rfl | rfl | rfl | rfl | rfl | rfl | rfl | rfl | rfl | rfl
    · exact ⟨s0, c0, t0, x0, y0, z0, b0, l0⟩
    · exact ⟨s1, c1, t1, x1, y1, z1, b1, l1⟩
    · exact ⟨s2, c2, t2, x2, y2, z2, b2, l2⟩
    · exact ⟨s3, c3, t3, x3, y3, z3, b3, l3⟩
    · exact ⟨s4, c4, t4, x4, y4, z4, b4, l4⟩
    · exact ⟨s5, c5, t5, x5, y5, z5, b5, l5⟩
    · exact ⟨s6, c6, t6, x6, y6, z6, b6, l6⟩
    · exact ⟨s7, c7, t7, x7, y7, z7, b7, l7⟩
    · exact ⟨s8, c8, t8, x8, y8, z8, b8, l8⟩
    · exact ⟨s9, c9, t9, x9, y9, z9, b9, l9⟩
    · exact ⟨s10, c10, t10, x10, y10, z10, b10, l10⟩
    · exact ⟨s11, c11, t11, x11, y11, z11, b11, l11⟩
    · exact ⟨s12, c12, t12, x12, y12, z12, b12, l12⟩
  refine ⟨fun i => [a0, a1, a2, a3, a4, a5, a6, a7, a8, a9, a10, a11, a12].getD i default, ⟨fun i hi => ?_, fun i hi => ?_, fun i j hi hj hne e => ?_, fun i hi => ?_⟩⟩
  · obtain ⟨_, _, _, p, _⟩ := key i hi; exact p
  · obtain ⟨_, _, _, _, _, _, _, p⟩ := key i hi; exact p
  · obtain ⟨s, _, _, _, p, q, _⟩ := key i hi
    obtain ⟨s', _, _, _, p', q', _⟩ := key j hj
    rw [show [a0, a1, a2, a3, a4, a5, a6, a7, a8, a9, a10, a11, a12].getD i default = [a0, a1, a2, a3, a4, a5, a6, a7, a8, a9, a10, a11, a12].getD j default from e] at p
    have es : s = s' := by
      have := p.symm.trans p'
      simpa using this
    exact hne (errTexts_ne i hi j hj (by rw [← q, ← q', es]))
  · obtain ⟨_, c, t, _, _, _, p, _⟩ := key i hi; exact ⟨c, t, p⟩
end Go.Proofs.YtfebohfmpikoeaaGreatDoor

end
