/- The four texts of a moment in range, by the program. -/
import Derived.Test.YtcmhaihoeecjoaaGreatDoorLays
import Derived.Test.YtcmhaihoeecjoaaGreatDoorCivil
namespace Go.Proofs.YtcmhaihoeecjoaaGreatDoor.Da
open Go.RowKit



set_option maxHeartbeats 1000000 in
theorem box_yes (t : Int) (y m d h mi s wk : Nat) (w : World) (ht : Tab w) (hd : Dt y m d h mi s wk)
    (HC : Hid (∀ w, Calls Tryz.prog 95 #[.int .i64 t] w fun e w' => e = .returned (.tuple #[.agg #[.int .i64 (y : Nat), .int .i64 (m : Nat), .int .i64 (d : Nat), .int .i64 (h : Nat), .int .i64 (mi : Nat), .int .i64 (s : Nat), .int .i64 (wk : Nat)], .nilIface]) ∧ Below w.heap.size w w')) :
    Calls Tryz.prog 33 #[.int .i64 t] w fun e w' => e = .returned (.tuple #[.string ⟨(boxL y m d h mi s wk).toArray⟩, .nilIface]) ∧ Below w.heap.size w w' := by
  have HT : Hid (Tab w) := ht
  have HD : Hid (Dt y m d h mi s wk) := hd
  clear ht hd
  go_enter Tryz.func33, Tryz.ntmps33
  go_wp2_with (first | (go_at_call 95; refine (HC.out _).mono ?_; rintro e w1 ⟨rfl, hb1⟩) | (go_at_call 63; go_in))
  refine (box1 y m d h mi s wk _ (HT.out.below (hb1.alloc hb1.size _)) HD.out).mono ?_
  rintro e w2 ⟨rfl, hb2⟩
  go_wp2
  go_ret2
  exact ⟨rfl, (hb1.alloc hb1.size _).trans (hb2.mono (by have := hb1.size; simp; omega))⟩





end Go.Proofs.YtcmhaihoeecjoaaGreatDoor.Da
