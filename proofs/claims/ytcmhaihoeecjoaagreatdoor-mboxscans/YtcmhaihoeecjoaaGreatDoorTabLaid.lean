/- What a row's list gives of the library's table of powers of ten. -/
import Derived.Test.YtcmhaihoeecjoaaGreatDoorTexts
import Derived.Test.YtcmhaihoeecjoaaGreatDoorLaid
import Derived.Lib.LaidTab
namespace Go.Proofs.YtcmhaihoeecjoaaGreatDoor.Da
open Go.RowKit

theorem cell_lt {w : World} {b o : Nat} {v : Value} (h : w.cell? ⟨b, o, none⟩ = some v) : b < w.heap.size := by
  unfold World.cell? at h
  split at h
  · rename_i hb
    exact blk_lt hb
  · cases h
theorem tabType : (Tryz.prog.globals[16]?).map (·.type) = some 161 := by kernel_rfl
theorem tabCells : Tryz.prog.cellsOf 161 = 20 := by kernel_rfl
theorem u64Cells : Tryz.prog.cellsOf 150 = 1 := by kernel_rfl
theorem tab_of_laid {W : World} {r : List (String × DataW Unit)} (h : laidMet Tryz.prog (("internal/strconv.uint64pow10", Rows.laid_internal_strconv_uint64pow10) :: r) W) : Tab W := by
  have ht : Lib.TabIs Tryz.prog W "internal/strconv.uint64pow10" .u64 Lib.pow10Tab := Lib.tabIs_of_head (rest := r) tabGlobal tabType Tryz.underlying161 Tryz.underlying150 u64Cells tabCells h
  have hv : W.var? Tryz.prog "internal/strconv.uint64pow10" = some (Lib.pow10Tab.map fun z => Value.int .u64 z).toArray := ht
  have hc := World.var?_cell tabGlobal hv 0
  exact ⟨ht, cell_lt (v := .int .u64 1) (by rw [hc]; rfl)⟩
end Go.Proofs.YtcmhaihoeecjoaaGreatDoor.Da
