/- Bytes that came in, as bytes. -/
import Derived.Test.YtkcailfpanmhdaaDoorArgs
import Derived.Test.YtkcailfpanmhdaaDoorLr1
namespace Go.Proofs.YtkcailfpanmhdaaDoor
open Go.RowKit
theorem bytes_of {zs : List Int} (h : ∀ z ∈ zs, (Lit.int .u8 z).wf = true) : ∃ bs : List UInt8, zs.map (Value.int .u8) = bs.map bv := by
  refine ⟨zs.map fun z => UInt8.ofNat z.toNat, ?_⟩
  rw [List.map_map]
  apply List.map_congr_left
  intro z hz
  have := h z hz
  simp [Lit.wf, IntKind.min, IntKind.max, IntKind.signed, IntKind.bits] at this
  show Value.int .u8 z = .int .u8 _
  congr 1
  have : (UInt8.ofNat z.toNat).toNat = z.toNat := by
    rw [UInt8.toNat_ofNat']
    omega
  rw [this]
  omega
end Go.Proofs.YtkcailfpanmhdaaDoor
