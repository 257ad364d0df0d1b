/- Fields of package header. -/
import Derived.Test.YtbjencibkkhbhaaGreatDoorHd5
namespace Go.Proofs.YtbjencibkkhbhaaGreatDoor
open Go.RowKit Go.Shelf
attribute [local go_sem] Oper.semAt_some
/-- What Fields answers. -/
def FOut (m : List UInt8) (ea : Addr) (w : World) (e : Ending) (w' : World) : Prop := Below w.heap.size w w' ∧
  ((200 < (hd (splitS m) 0).1.length ∧ e = .returned (.tuple #[.slice none 0 0, errP ea])) ∨
   ((hd (splitS m) 0).1.length ≤ 200 ∧ ∃ v, e = .returned (.tuple #[v, .nilIface]) ∧ Fds w.heap.size w' v (hd (splitS m) 0).1))
end Go.Proofs.YtbjencibkkhbhaaGreatDoor
