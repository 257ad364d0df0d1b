/- Moments out of range; which dates are right. -/
import Derived.Test.YtabncmepkoiheaaDoorRCiv
import Derived.Test.YtabncmepkoiheaaDoorNum
import Derived.RegionTactic
import Derived.ChangeAlike
import Derived.Deep.QuietTactic
import Derived.BigQuiet
import Derived.Deep.RegionWith
namespace Go.Proofs.YtabncmepkoiheaaDoor
open Go.RowKit

set_option maxHeartbeats 1000000 in
theorem civil_no (t : Int) (w : World) (a : Nat → Addr) (hE : Errs w a) (h : t < 0 ∨ 4102444799 < t) :
    Calls Tryd.prog 14 #[.int .i64 t] w fun e w' => e = .returned (.tuple #[.agg #[.int .i64 0, .int .i64 0, .int .i64 0, .int .i64 0, .int .i64 0, .int .i64 0, .int .i64 0], .iface 79 (.pointer (some (a 0)))]) ∧ Below w.heap.size w w' := by
  have hb : btw t 0 4102444799 = false := btw_not h
  have c0 : w.cell? ⟨0, 0, none⟩ = some (.iface 79 (.pointer (some (a 0)))) := hE.cell 0 (by decide)
  have l0 : 0 < w.heap.size := hE.low 0 (by decide)
  clear hE
  go_enter Tryd.func14, Tryd.ntmps14
  go_wp2_with (go_at_call 39; refine (inRange_any _ _).mono ?_; rintro e w' ⟨rfl, rfl⟩)
  go_region
  go_wp2
  exact bodyPost_ret (v := .tuple #[.agg #[.int .i64 0, .int .i64 0, .int .i64 0, .int .i64 0, .int .i64 0, .int .i64 0, .int .i64 0], .iface 79 (.pointer (some (a 0)))]) (by simp [results, Tryd.results14, go_sem]) rfl ⟨rfl, ((Below.refl _ _).alloc (Nat.le_refl _) _).drew⟩

end Go.Proofs.YtabncmepkoiheaaDoor
