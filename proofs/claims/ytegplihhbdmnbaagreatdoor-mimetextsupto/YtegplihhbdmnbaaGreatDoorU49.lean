/- What a row that lists ErrFull gives the walks. -/
/- What a row's list gives of the library's table of powers of ten, beside layer 10's texts. -/
import Derived.Test.YtegplihhbdmnbaaGreatDoorRows
import Derived.Test.YtegplihhbdmnbaaGreatDoorU09
import Derived.Stop.LaidErr
import Derived.LaidByTextLater
import Derived.Test.YtegplihhbdmnbaaGreatDoorU16
import Derived.Test.YtegplihhbdmnbaaGreatDoorU19
import Derived.Lib.LaidTab
section
namespace Go.Proofs.YtegplihhbdmnbaaGreatDoor
open Go.RowKit

theorem errStar : "*" ++ "errors.errorString" = "*errors.errorString" := by decide
theorem errRow (u : TypeId) (h : Tryz.prog.typeName? 3 u = some "*errors.errorString") : u = 183 :=
  typeName_ptr_named (nm := "errors.errorString") (by rw [errStar]; kernel_rfl) (by kernel_rfl) (by decide) u (by rw [errStar]; exact h)
theorem errCells : Tryz.prog.cellsOf 185 = 1 := by kernel_rfl
theorem strCells : Tryz.prog.cellsOf 9 = 1 := by kernel_rfl

/-- The first listed variable, where it is an error of the make of errors.New, of whatever program. -/
theorem laid_head_any {P : Program} {n nm : String} {text : List UInt8} {r : List (String × DataW Unit)} {W : World} {g : Nat} {ti tp te ts : TypeId} {ms : Array (String × TypeId)} {f : Field}
    (h : laidMet P ((n, .iface nm (.ptr (.agg [.lit (.string text)]))) :: r) W)
    (hg : P.globalNamed n = some g) (ht : (P.globals[g]?).map (·.type) = some ti) (hi : P.underlying ti = some (.interface ms)) (hrow : ∀ u, P.typeName? 3 u = some nm → u = tp)
    (hp : P.underlying tp = some (.pointer te)) (he : P.underlying te = some (.struct #[f])) (hft : f.type = ts) (hfo : f.offset = 0) (hs : P.underlying ts = some .string) (hc : P.cellsOf te = 1) (hcs : P.cellsOf ts = 1) :
    ∃ (a : Addr) (s : ByteArray) (c : Array Value) (t : TypeId), W.cell? ⟨g, 0, none⟩ = some (.iface tp (.pointer (some a))) ∧ W.cell? a = some (.string s) ∧ s.data.toList = text ∧ W.heap[a.block]? = some (.cells c t (0, 0)) ∧ g < W.heap.size := by
  obtain ⟨ps, ⟨g0, t0, cs0, f0, p0, q0, hg0, ht0, hv0, hd0, _, e0⟩, _, hrows⟩ := h
  obtain rfl := Option.some.inj (hg.symm.trans hg0)
  obtain rfl := Option.some.inj (ht.symm.trans ht0)
  subst e0
  obtain ⟨l0⟩ := cs0
  have ok0 : ∀ u v, l0 = [.iface u v] → Value.okWide P W .any 0 u v := fun u v e => by
    subst e
    exact (hrows g 0 (by simp [MemPlace.row])).2 u v (by simpa using World.var?_cell hg0 hv0 0)
  obtain ⟨a0, s0, rfl, hc0, hs0, hz0, rfl⟩ := errorString_of_trod hi hrow hp he hft hfo hs hc hcs hd0 ok0
  obtain ⟨c0, t0, hb0⟩ := (hrows a0.block a0.off (by simp [MemPlace.row])).1
  obtain ⟨c1, t1, hb1⟩ := (hrows g 0 (by simp [MemPlace.row])).1
  exact ⟨a0, s0, c0, t0, by simpa using World.var?_cell hg0 hv0 0, hc0, hs0, hb0, (Array.getElem?_eq_some_iff.1 hb1).1⟩
theorem laid_head {n : String} {text : List UInt8} {r : List (String × DataW Unit)} {W : World} {g : Nat} (h : laidMet Tryz.prog ((n, .iface "*errors.errorString" (.ptr (.agg [.lit (.string text)]))) :: r) W)
    (hg : Tryz.prog.globalNamed n = some g) (ht : (Tryz.prog.globals[g]?).map (·.type) = some 28) :
    ∃ (a : Addr) (s : ByteArray) (c : Array Value) (t : TypeId), W.cell? ⟨g, 0, none⟩ = some (.iface 183 (.pointer (some a))) ∧ W.cell? a = some (.string s) ∧ s.data.toList = text ∧ W.heap[a.block]? = some (.cells c t (0, 0)) ∧ g < W.heap.size :=
  laid_head_any h hg ht Tryz.underlying28 errRow Tryz.underlying183 Tryz.underlying185 rfl rfl Tryz.underlying9 errCells strCells

def textErrFull : List UInt8 := match (Rows.laid_postbag_api_ErrFull : DataW Unit) with | .iface _ (.ptr (.agg [.lit (.string t)])) => t | _ => []
theorem ef_of_laid {W : World} {r : List (String × DataW Unit)} (h : laidMet Tryz.prog (("postbag/api.ErrFull", Rows.laid_postbag_api_ErrFull) :: r) W) : ∃ a, EF W a := by
  obtain ⟨a, _, _, _, h1, _, _, _, h2⟩ := laid_head (text := textErrFull) (g := 10) h (by kernel_rfl) (by kernel_rfl)
  exact ⟨a, h1, h2⟩
end Go.Proofs.YtegplihhbdmnbaaGreatDoor

end
section
namespace Go.Proofs.YtegplihhbdmnbaaGreatDoor
open Go.RowKit
theorem cell_lt {w : World} {b o : Nat} {v : Value} (h : w.cell? ⟨b, o, none⟩ = some v) : b < w.heap.size := by
  unfold World.cell? at h
  split at h
  · rename_i hb
    exact (Array.getElem?_eq_some_iff.1 hb).1
  · cases h
theorem tabTypeM : (Tryz.prog.globals[18]?).map (·.type) = some 198 := by kernel_rfl
theorem tabCellsM : Tryz.prog.cellsOf 198 = 20 := by kernel_rfl
theorem u64CellsM : Tryz.prog.cellsOf 158 = 1 := by kernel_rfl
theorem tab_of_laid {W : World} {r : List (String × DataW Unit)} (h : laidMet Tryz.prog (("internal/strconv.uint64pow10", Rows.laid_internal_strconv_uint64pow10) :: r) W) : TabM W := by
  have ht : Lib.TabIs Tryz.prog W "internal/strconv.uint64pow10" .u64 Lib.pow10Tab := Lib.tabIs_of_head (rest := r) tabGlobalM tabTypeM Tryz.underlying198 Tryz.underlying158 u64CellsM tabCellsM h
  have hv : W.var? Tryz.prog "internal/strconv.uint64pow10" = some (Lib.pow10Tab.map fun z => Value.int .u64 z).toArray := ht
  have hc := World.var?_cell tabGlobalM hv 0
  exact ⟨ht, cell_lt (v := .int .u64 1) (by rw [hc]; rfl)⟩
def textErrForm : List UInt8 := match (Rows.laid_postbag_api_ErrForm : DataW Unit) with | .iface _ (.ptr (.agg [.lit (.string t)])) => t | _ => []
theorem eff_of_laid {W : World} {r : List (String × DataW Unit)} (h : laidMet Tryz.prog (("postbag/api.ErrForm", Rows.laid_postbag_api_ErrForm) :: ("postbag/api.ErrFull", Rows.laid_postbag_api_ErrFull) :: r) W) : ∃ a : Addr × Addr, EF W a.1 ∧ EFm W a.2 := by
  obtain ⟨a, _, _, _, h1, _, _, _, h2⟩ := laid_head (text := textErrForm) (g := 0) h (by kernel_rfl) (by kernel_rfl)
  replace h := laidMet.tail h
  obtain ⟨b, _, _, _, k1, _, _, _, k2⟩ := laid_head (text := textErrFull) (g := 10) h (by kernel_rfl) (by kernel_rfl)
  exact ⟨(b, a), ⟨k1, k2⟩, ⟨h1, h2⟩⟩
end Go.Proofs.YtegplihhbdmnbaaGreatDoor

end
