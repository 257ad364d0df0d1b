/- Small letters, byte by byte. -/
import Derived.WalkKit
namespace Go.Proofs.YtbjencibkkhbhaaGreatDoor
def lowB (c : UInt8) : UInt8 := if 65 ≤ c.toNat ∧ c.toNat ≤ 90 then c + 32 else c
end Go.Proofs.YtbjencibkkhbhaaGreatDoor
