/- The document's Digits, where package mime is not; texts of ranges. -/
import Derived.Test.YtbjencibkkhbhabGreatDoorSq7
import Derived.Lib.ItoaMem
set_option linter.unusedSimpArgs false
set_option linter.unusedVariables false
namespace Go.Proofs.YtbjencibkkhbhabGreatDoor
open Go.RowKit Go.Shelf
theorem conv14 (wr : World) (x : UInt8) (i : Int) (hx : (x.toNat : Int) = i) : (convert 66 9 (.slice (some ⟨wr.heap.size, 0, none⟩) 1 1)).run Tryz.prog (wr.alloc (.cells #[.int .u8 i] 5)) = .ok (.string ⟨#[x]⟩) (wr.alloc (.cells #[.int .u8 i] 5)) := by
  subst hx
  refine conv_out (bs := [x]) (fun j hj => ?_)
  have hB := Blk.new wr #[.int .u8 (x.toNat : Int)] 5
  match j, hj with
  | 0, _ => exact ⟨hB.cell 0, hB.frozen 0⟩
theorem dig14 {k : Nat} (h : k < 10) : ((UInt8.ofNat (48 + k)).toNat : Int) = 48 + (k : Int) := by
  rw [UInt8.toNat_ofNat']
  omega
theorem digs14 {k : Nat} (h : ¬ k < 10) (ds : List UInt8) : Lib.decDigits k ++ ds = Lib.decDigits (k / 10) ++ (UInt8.ofNat (48 + k % 10) :: ds) := by
  rw [Lib.decDigits, dif_neg h]
  simp
end Go.Proofs.YtbjencibkkhbhabGreatDoor
