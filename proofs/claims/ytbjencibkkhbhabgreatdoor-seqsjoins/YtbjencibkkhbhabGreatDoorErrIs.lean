/- errors.Is over two errors of the make of errors.New: true of one pointer, false of two. -/
import Derived.Test.YtbjencibkkhbhabGreatDoorProg
import Derived.WalkKit
import Derived.WalkLawsBesides
import Derived.LaidEql
import Derived.Stop.Asserts
import Derived.RowKitTokens
namespace Go.Proofs.YtbjencibkkhbhabGreatDoor
open Go.RowKit Go.Extern.Stop Go.Stop Go.Extern

theorem isComp : (Tryz.prog.info? 132).map (·.comparable) = some true := by kernel_rfl
theorem isSize : (Tryz.prog.info? 134).map (·.size) = some 1 := by kernel_rfl
end Go.Proofs.YtbjencibkkhbhabGreatDoor
