/- A message comes back. -/
import Derived.Test.YtcmhaihoeecjoaaGreatDoorQ6
namespace Go.Proofs.YtcmhaihoeecjoaaGreatDoor
open Go.RowKit
theorem dec_enc (s : List UInt8) : decV (encL s) = some s := by
  obtain ⟨m, hm⟩ := enc_end s
  unfold decV
  rw [if_pos ⟨by rw [hm]; simp, enc_noSep s⟩, enc_back, List.dropLast_concat]
theorem decode_enc (s : List UInt8) (w : World) (hs : (encL s).length ≤ 1000000) : Calls Tryz.prog 31 #[.string ⟨(encL s).toArray⟩] w fun e w' => e = .returned (.tuple #[.string ⟨s.toArray⟩, .nilIface]) ∧ Below w.heap.size w w' := by
  have := decode_any (encL s) w ⟨0, 0, none⟩ hs (fun h => by rw [dec_enc] at h; cases h)
  unfold decT at this
  rw [dec_enc] at this
  exact this
end Go.Proofs.YtcmhaihoeecjoaaGreatDoor
