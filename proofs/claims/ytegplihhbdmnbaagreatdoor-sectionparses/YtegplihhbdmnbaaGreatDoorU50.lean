/- What a row's list gives of the library's table of powers of ten, and of the library's two errors of numbers. -/
import Derived.Test.YtegplihhbdmnbaaGreatDoorU33
import Derived.Test.YtegplihhbdmnbaaGreatDoorU39
import Derived.Test.YtegplihhbdmnbaaGreatDoorU49
import Derived.Lib.LaidTab
namespace Go.Proofs.YtegplihhbdmnbaaGreatDoor
open Go.RowKit
theorem cell_lt {w : World} {b o : Nat} {v : Value} (h : w.cell? ⟨b, o, none⟩ = some v) : b < w.heap.size := by
  unfold World.cell? at h
  split at h
  · rename_i hb
    exact blk_lt hb
  · cases h
theorem tabTypeM : (Tryz.prog.globals[18]?).map (·.type) = some 198 := by kernel_rfl
theorem tabCellsM : Tryz.prog.cellsOf 198 = 20 := by kernel_rfl
theorem u64CellsM : Tryz.prog.cellsOf 158 = 1 := by kernel_rfl
theorem tab_of_laid {W : World} {r : List (String × DataW Unit)} (h : laidMet Tryz.prog (("internal/strconv.uint64pow10", Rows.laid_internal_strconv_uint64pow10) :: r) W) : TabM W := by
  have ht : Lib.TabIs Tryz.prog W "internal/strconv.uint64pow10" .u64 Lib.pow10Tab := Lib.tabIs_of_head (rest := r) tabGlobalM tabTypeM Tryz.underlying198 Tryz.underlying158 u64CellsM tabCellsM h
  have hv : W.var? Tryz.prog "internal/strconv.uint64pow10" = some (Lib.pow10Tab.map fun z => Value.int .u64 z).toArray := ht
  have hc := World.var?_cell tabGlobalM hv 0
  exact ⟨ht, cell_lt (v := .int .u64 1) (by rw [hc]; rfl)⟩
def textSyRange : List UInt8 := match (Rows.laid_strconv_ErrRange : DataW Unit) with | .iface _ (.ptr (.agg [.lit (.string t)])) => t | _ => []
def textSySyntax : List UInt8 := match (Rows.laid_strconv_ErrSyntax : DataW Unit) with | .iface _ (.ptr (.agg [.lit (.string t)])) => t | _ => []
theorem sye_of_laid {W : World} {r : List (String × DataW Unit)} (h : laidMet Tryz.prog (("strconv.ErrRange", Rows.laid_strconv_ErrRange) :: ("strconv.ErrSyntax", Rows.laid_strconv_ErrSyntax) :: r) W) : SyE W := by
  obtain ⟨a, _, _, _, h1, _, _, _, h2⟩ := laid_head (text := textSyRange) (g := 15) h (by kernel_rfl) (by kernel_rfl)
  replace h := laidMet.tail h
  obtain ⟨b, _, _, _, k1, _, _, _, k2⟩ := laid_head (text := textSySyntax) (g := 14) h (by kernel_rfl) (by kernel_rfl)
  exact ⟨⟨_, k1, .inr ⟨_, _, rfl⟩⟩, _, h1, .inr ⟨_, _, rfl⟩⟩
end Go.Proofs.YtegplihhbdmnbaaGreatDoor
