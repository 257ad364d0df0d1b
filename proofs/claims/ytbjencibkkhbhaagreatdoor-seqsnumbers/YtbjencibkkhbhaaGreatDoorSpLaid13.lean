/- The same, where the row lists the thirteen errors. -/
import Derived.Test.YtbjencibkkhbhaaGreatDoorLaid
import Derived.Test.YtbjencibkkhbhaaGreatDoorSpLaid
namespace Go.Proofs.YtbjencibkkhbhaaGreatDoor
open Go.RowKit
theorem sp13_of_laid {W : World} (h : laidMet Tryz.prog Rows.seqsSetsRow.laid W) : ∃ ea : Nat → Addr, Errs W ea ∧ SpE W (ea 1) := by
  have h2 := laidMet.tail (laidMet.tail h)
  have h4 := laidMet.tail (laidMet.tail h2)
  obtain ⟨ea, hE⟩ := errs_of_laid h4
  have h17 := laidMet.tail (laidMet.tail (laidMet.tail (laidMet.tail (laidMet.tail (laidMet.tail (laidMet.tail (laidMet.tail (laidMet.tail (laidMet.tail (laidMet.tail (laidMet.tail (laidMet.tail h4))))))))))))
  obtain ⟨k1, k2⟩ := rest_of_laidQ h17
  exact ⟨ea, hE, ⟨hE.cell 1 (by decide), hE.low 1 (by decide)⟩, k1, tab_of_laidQ h2, k2⟩
end Go.Proofs.YtbjencibkkhbhaaGreatDoor
