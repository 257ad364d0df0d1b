/- The numbers of errors: postbagnum.Num at nil and at each of package api's thirteen values. -/
import Derived.Test.YtbjencibkkhbhabGreatDoorErrIs
namespace Go.Proofs.YtbjencibkkhbhabGreatDoor
open Go.RowKit

theorem blk_lt {w : World} {k : Nat} {o : Obj} (h : w.heap[k]? = some o) : k < w.heap.size := (Array.getElem?_eq_some_iff.1 h).1

def errV (a : Nat → Addr) (i : Nat) : Value := .iface 132 (.pointer (some (a i)))

end Go.Proofs.YtbjencibkkhbhabGreatDoor
