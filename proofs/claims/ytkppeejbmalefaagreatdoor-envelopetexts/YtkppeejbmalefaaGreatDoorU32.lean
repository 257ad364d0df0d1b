/- What a row's list gives of the library's table of powers of ten, beside layer 11's texts. -/
import Derived.Test.YtkppeejbmalefaaGreatDoorU13
import Derived.Test.YtkppeejbmalefaaGreatDoorU31
import Derived.Lib.LaidTab
namespace Go.Proofs.YtkppeejbmalefaaGreatDoor
open Go.RowKit
theorem cell_ltE {w : World} {b o : Nat} {v : Value} (h : w.cell? ⟨b, o, none⟩ = some v) : b < w.heap.size := by
  unfold World.cell? at h
  split at h
  · rename_i hb
    exact (Array.getElem?_eq_some_iff.1 hb).1
  · cases h
theorem tabTypeE : (Tryz.prog.globals[5]?).map (·.type) = some 156 := by kernel_rfl
theorem tabCellsE : Tryz.prog.cellsOf 156 = 20 := by kernel_rfl
theorem u64CellsE : Tryz.prog.cellsOf 147 = 1 := by kernel_rfl
theorem tab_of_laid {W : World} {r : List (String × DataW Unit)} (h : laidMet Tryz.prog (("internal/strconv.uint64pow10", Rows.laid_internal_strconv_uint64pow10) :: r) W) : TabM W := by
  have ht : Lib.TabIs Tryz.prog W "internal/strconv.uint64pow10" .u64 Lib.pow10Tab := Lib.tabIs_of_head (rest := r) tabGlobalM tabTypeE Tryz.underlying156 Tryz.underlying147 u64CellsE tabCellsE h
  have hv : W.var? Tryz.prog "internal/strconv.uint64pow10" = some (Lib.pow10Tab.map fun z => Value.int .u64 z).toArray := ht
  have hc := World.var?_cell tabGlobalM hv 0
  exact ⟨ht, cell_ltE (v := .int .u64 1) (by rw [hc]; rfl)⟩
end Go.Proofs.YtkppeejbmalefaaGreatDoor
