/- What a row's list gives of the library's table of powers of ten, beside layer 10's texts. -/
import Derived.Test.YtfebohfmpikoeabGreatDoorMi12
import Derived.Test.YtfebohfmpikoeabGreatDoorMi3
import Derived.Test.YtfebohfmpikoeabGreatDoorLaidF
import Derived.Lib.LaidTab
namespace Go.Proofs.YtfebohfmpikoeabGreatDoor
open Go.RowKit
theorem cell_lt {w : World} {b o : Nat} {v : Value} (h : w.cell? ⟨b, o, none⟩ = some v) : b < w.heap.size := by
  unfold World.cell? at h
  split at h
  · rename_i hb
    exact (Array.getElem?_eq_some_iff.1 hb).1
  · cases h
theorem tabTypeM : (Tryz.prog.globals[5]?).map (·.type) = some 128 := by kernel_rfl
theorem tabCellsM : Tryz.prog.cellsOf 128 = 20 := by kernel_rfl
theorem u64CellsM : Tryz.prog.cellsOf 122 = 1 := by kernel_rfl
theorem tab_of_laid {W : World} {r : List (String × DataW Unit)} (h : laidMet Tryz.prog (("internal/strconv.uint64pow10", Rows.laid_internal_strconv_uint64pow10) :: r) W) : TabM W := by
  have ht : Lib.TabIs Tryz.prog W "internal/strconv.uint64pow10" .u64 Lib.pow10Tab := Lib.tabIs_of_head (rest := r) tabGlobalM tabTypeM Tryz.underlying128 Tryz.underlying122 u64CellsM tabCellsM h
  have hv : W.var? Tryz.prog "internal/strconv.uint64pow10" = some (Lib.pow10Tab.map fun z => Value.int .u64 z).toArray := ht
  have hc := World.var?_cell tabGlobalM hv 0
  exact ⟨ht, cell_lt (v := .int .u64 1) (by rw [hc]; rfl)⟩
def textErrForm : List UInt8 := match (Rows.laid_postbag_api_ErrForm : DataW Unit) with | .iface _ (.ptr (.agg [.lit (.string t)])) => t | _ => []
theorem eff_of_laid {W : World} {r : List (String × DataW Unit)} (h : laidMet Tryz.prog (("postbag/api.ErrForm", Rows.laid_postbag_api_ErrForm) :: ("postbag/api.ErrFull", Rows.laid_postbag_api_ErrFull) :: r) W) : ∃ a : Addr × Addr, EF W a.1 ∧ EFm W a.2 := by
  obtain ⟨a, _, _, _, h1, _, _, _, h2⟩ := laid_head (text := textErrForm) (g := 0) h (by kernel_rfl) (by kernel_rfl)
  replace h := laidMet.tail h
  obtain ⟨b, _, _, _, k1, _, _, _, k2⟩ := laid_head (text := textErrFull) (g := 1) h (by kernel_rfl) (by kernel_rfl)
  exact ⟨(b, a), ⟨k1, k2⟩, ⟨h1, h2⟩⟩
end Go.Proofs.YtfebohfmpikoeabGreatDoor
