/- Body of package header; places: the iterator over a header's fields, for every body. -/
import Derived.RangeFuncNested
import Derived.RangeFuncBound
import Derived.RangeFuncCalls
import Derived.RangeFuncLeaves
import Derived.RangeFuncBox
import Derived.Shelf.Abstract
import Derived.Shelf.RegionOpen
import Derived.OwnWalkIn
import Derived.TacticsInMore
import Derived.LoopNIn
import Derived.LoopIn
import Derived.Test.YtbjencibkkhbhaaGreatDoorHd2
namespace Go.Proofs.YtbjencibkkhbhaaGreatDoor
open Go.RowKit Go.Shelf
attribute [local go_sem] Oper.semAt_some
theorem lit_empty {t : List UInt8} (h : t = []) : ((⟨t.toArray⟩ : ByteArray) == ⟨#[]⟩) = true := by subst h; rfl
theorem nameV_some {t p : List UInt8} (h : nameO t = some p) : nameV t = (p, true) := by
  unfold nameV
  rw [h]
theorem nameV_none {t : List UInt8} (h : nameO t = none) : nameV t = ([], false) := by
  unfold nameV
  rw [h]
end Go.Proofs.YtbjencibkkhbhaaGreatDoor
