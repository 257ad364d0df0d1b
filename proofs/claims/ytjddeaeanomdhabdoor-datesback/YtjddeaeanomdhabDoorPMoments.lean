/- The four texts of a moment in range, by the program. -/
import Derived.Test.YtjddeaeanomdhabDoorLays
import Derived.Test.YtjddeaeanomdhabDoorCivil
namespace Go.Proofs.YtjddeaeanomdhabDoor
open Go.RowKit

set_option maxHeartbeats 1000000 in
theorem mail_yes (t : Int) (y m d h mi s wk : Nat) (w : World) (ht : Tab w) (hd : Dt y m d h mi s wk)
    (HC : Hid (∀ w, Calls Tryd.prog 15 #[.int .i64 t] w fun e w' => e = .returned (.tuple #[.agg #[.int .i64 (y : Nat), .int .i64 (m : Nat), .int .i64 (d : Nat), .int .i64 (h : Nat), .int .i64 (mi : Nat), .int .i64 (s : Nat), .int .i64 (wk : Nat)], .nilIface]) ∧ Below w.heap.size w w')) :
    Calls Tryd.prog 19 #[.int .i64 t] w fun e w' => e = .returned (.tuple #[.string ⟨(mailL y m d h mi s wk).toArray⟩, .nilIface]) ∧ Below w.heap.size w w' := by
  have HT : Hid (Tab w) := ht
  have HD : Hid (Dt y m d h mi s wk) := hd
  clear ht hd
  go_enter Tryd.func19, Tryd.ntmps19
  go_wp2_with (first | (go_at_call 15; refine (HC.out _).mono ?_; rintro e w1 ⟨rfl, hb1⟩) | (go_at_call 46; go_in))
  refine (mail1 y m d h mi s wk _ (HT.out.below (hb1.alloc hb1.size _)) HD.out).mono ?_
  rintro e w2 ⟨rfl, hb2⟩
  go_wp2
  go_ret2
  exact ⟨rfl, (hb1.alloc hb1.size _).trans (hb2.mono (by have := hb1.size; simp; omega))⟩




set_option maxHeartbeats 1000000 in
theorem internal_yes (t : Int) (y m d h mi s wk : Nat) (w : World) (ht : Tab w) (hd : Dt y m d h mi s wk)
    (HC : Hid (∀ w, Calls Tryd.prog 15 #[.int .i64 t] w fun e w' => e = .returned (.tuple #[.agg #[.int .i64 (y : Nat), .int .i64 (m : Nat), .int .i64 (d : Nat), .int .i64 (h : Nat), .int .i64 (mi : Nat), .int .i64 (s : Nat), .int .i64 (wk : Nat)], .nilIface]) ∧ Below w.heap.size w w')) :
    Calls Tryd.prog 17 #[.int .i64 t] w fun e w' => e = .returned (.tuple #[.string ⟨(internalL y m d h mi s wk).toArray⟩, .nilIface]) ∧ Below w.heap.size w w' := by
  have HT : Hid (Tab w) := ht
  have HD : Hid (Dt y m d h mi s wk) := hd
  clear ht hd
  go_enter Tryd.func17, Tryd.ntmps17
  go_wp2_with (first | (go_at_call 15; refine (HC.out _).mono ?_; rintro e w1 ⟨rfl, hb1⟩) | (go_at_call 46; go_in))
  refine (internal1 y m d h mi s wk _ (HT.out.below (hb1.alloc hb1.size _)) HD.out).mono ?_
  rintro e w2 ⟨rfl, hb2⟩
  go_wp2
  go_ret2
  exact ⟨rfl, (hb1.alloc hb1.size _).trans (hb2.mono (by have := hb1.size; simp; omega))⟩


set_option maxHeartbeats 1000000 in
theorem day_yes (t : Int) (y m d h mi s wk : Nat) (w : World) (ht : Tab w) (hd : Dt y m d h mi s wk)
    (HC : Hid (∀ w, Calls Tryd.prog 15 #[.int .i64 t] w fun e w' => e = .returned (.tuple #[.agg #[.int .i64 (y : Nat), .int .i64 (m : Nat), .int .i64 (d : Nat), .int .i64 (h : Nat), .int .i64 (mi : Nat), .int .i64 (s : Nat), .int .i64 (wk : Nat)], .nilIface]) ∧ Below w.heap.size w w')) :
    Calls Tryd.prog 20 #[.int .i64 t] w fun e w' => e = .returned (.tuple #[.string ⟨(dayL y m d h mi s wk).toArray⟩, .nilIface]) ∧ Below w.heap.size w w' := by
  have HT : Hid (Tab w) := ht
  have HD : Hid (Dt y m d h mi s wk) := hd
  clear ht hd
  go_enter Tryd.func20, Tryd.ntmps20
  go_wp2_with (first | (go_at_call 15; refine (HC.out _).mono ?_; rintro e w1 ⟨rfl, hb1⟩) | (go_at_call 46; go_in))
  refine (dayf1 y m d h mi s wk _ (HT.out.below (hb1.alloc hb1.size _)) HD.out).mono ?_
  rintro e w2 ⟨rfl, hb2⟩
  go_wp2
  go_ret2
  exact ⟨rfl, (hb1.alloc hb1.size _).trans (hb2.mono (by have := hb1.size; simp; omega))⟩

end Go.Proofs.YtjddeaeanomdhabDoor
