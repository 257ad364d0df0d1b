/- alive: the chapter's example; HeaderSame. -/
import Derived.Test.YtelpjiiladbigaaDoorHs1
namespace Go.Proofs.YtelpjiiladbigaaDoor
open Go.RowKit Go.Shelf
/-- The example's message. -/
def exL : List UInt8 := [65, 58, 32, 120, 13, 10, 32, 121, 13, 10, 66, 58, 122, 13, 10, 13, 10, 98, 111, 100, 121]
theorem ex_hd : (hd (splitS exL) 0).1 = [⟨[65], [120, 32, 121], 0, 10⟩, ⟨[66], [122], 10, 15⟩] := by kernel_rfl
theorem ex_body : bodyL (splitS exL) 0 = 17 := by kernel_rfl
end Go.Proofs.YtelpjiiladbigaaDoor
