/- The document's Number and Cut of layer 14. -/
import Derived.Test.YtbjencibkkhbhabGreatDoorMgQMath
import Derived.Test.YtbjencibkkhbhabGreatDoorHr0
set_option linter.unusedSimpArgs false
set_option linter.unusedVariables false
namespace Go.Proofs.YtbjencibkkhbhabGreatDoor
open Go.RowKit Go.Shelf
theorem u8_num (c : UInt8) (n : Nat) (hn : n < 256) (h : c ≠ n.toUInt8) : ¬ (c.toNat : Int) = n := by
  intro e
  have e2 : c.toNat = n := by omega
  exact h (UInt8.toNat_inj.1 (by rw [e2]; simp; omega))
theorem slice_sq (s : List UInt8) (b e : Nat) (h1 : b ≤ e) (h2 : e ≤ s.length) (w : World) : (Instr.slice 9 (.string ⟨s.toArray⟩) (some (.int .i64 (b : Int))) (some (.int .i64 (e : Int))) none).run Tryz.prog w = .ok (.string ⟨((s.drop b).take (e - b)).toArray⟩) w := by
  have := run_slice_string (P := Tryz.prog) w 9 ⟨s.toArray⟩ .i64 .i64 (b : Int) (e : Int) Tryz.underlying9 (by omega) (by omega) (by rw [size_lit]; omega)
  rw [this]
  rw [show ((b : Int)).toNat = b from by omega, show ((e : Int)).toNat = e from by omega, ext_mid s b e]
end Go.Proofs.YtbjencibkkhbhabGreatDoor
