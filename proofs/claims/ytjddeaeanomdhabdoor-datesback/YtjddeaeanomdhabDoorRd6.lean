/- The reader of package dates: whole texts, read from the front. -/
import Derived.Test.YtjddeaeanomdhabDoorRd5
import Derived.Test.YtjddeaeanomdhabDoorPMoment
namespace Go.Proofs.YtjddeaeanomdhabDoor
open Go.RowKit

section
variable (b : Nat) (r : List UInt8) (y m d h mi s wk a : Int) (w : World)

set_option maxHeartbeats 1000000 in
theorem blanks1 (c : UInt8) (k : Rd w b (32 :: c :: r) y m d h mi s wk a) (h1 : ((c.toNat : Int) == 32) = false) (h2 : ((c.toNat : Int) == 9) = false) (hl : r.length ≤ 800) :
    Calls Tryd.prog 28 #[.pointer (some ⟨b, 0, none⟩)] w fun e w' => e = .returned (.tuple #[]) ∧ Mv b w w' ∧ Rd w' b (c :: r) y m d h mi s wk a := by
  have K : Hid (Rd w b (32 :: c :: r) y m d h mi s wk a) := k
  clear k
  go_enter Tryd.func28, Tryd.ntmps28
  go_wp2_with (first | (go_at_call 63; refine (atBlank_any b (c :: r) y m d h mi s wk a _ 32 K.out).mono ?_; rintro e w' ⟨rfl, hw⟩; obtain rfl := hw.symm) | (go_at_call 24; refine (skipBlanks1 b r y m d h mi s wk a _ c K.out h1 h2 hl).mono ?_; rintro e w1 ⟨rfl, hm1, hr1⟩))
  go_end0
  exact ⟨rfl, hm1, hr1⟩

set_option maxHeartbeats 1000000 in
theorem dow_ok (j : Nat) (hj : j < 7) (c : UInt8) (k : Rd w b (wkd (j : Int) ++ 44 :: 32 :: c :: r) y m d h mi s wk a) (h1 : ((c.toNat : Int) == 32) = false) (h2 : ((c.toNat : Int) == 9) = false) (hl : r.length ≤ 700) :
    Calls Tryd.prog 26 #[.pointer (some ⟨b, 0, none⟩)] w fun e w' => e = .returned (.tuple #[]) ∧ Mv b w w' ∧ Rd w' b (c :: r) y m d h mi s wk a := by
  have K : Hid (Rd w b (wkd (j : Int) ++ 44 :: 32 :: c :: r) y m d h mi s wk a) := k
  clear k
  go_enter Tryd.func26, Tryd.ntmps26
  go_wp2_with fail
  refine (name_wkd j hj b (44 :: 32 :: c :: r) y m d h mi s wk a _ K.out (by simp; omega)).mono ?_
  rintro e w1 ⟨rfl, hm1, hr1⟩
  have HM1 : Hid (Mv b w w1) := hm1
  have HR1 : Hid (Rd w1 b (44 :: 32 :: c :: r) y m d h mi s wk a) := hr1
  clear hm1 hr1
  go_wp2_with (go_at_call 24; refine (skipBlanks0 b (32 :: c :: r) y m d h mi s wk a _ 44 HR1.out rfl rfl).mono ?_; rintro e w' ⟨rfl, hw⟩; obtain rfl := hw.symm)
  refine (mark_ok b 44 (32 :: c :: r) y m d h mi s wk a _ HR1.out (by simp; omega)).mono ?_
  rintro e w2 ⟨rfl, hm2, hr2⟩
  have HM2 : Hid (Mv b w w2) := HM1.out.trans hm2
  have HR2 : Hid (Rd w2 b (32 :: c :: r) y m d h mi s wk a) := hr2
  clear hm2 hr2
  go_wp2_with fail
  refine (skipBlanks1 b r y m d h mi s wk a _ c HR2.out h1 h2 (by omega)).mono ?_
  rintro e w3 ⟨rfl, hm3, hr3⟩
  go_wp2
  go_end0
  exact ⟨rfl, HM2.out.trans hm3, hr3⟩

set_option maxHeartbeats 1000000 in
theorem end_ok (k : Rd w b [] y m d h mi s wk a) :
    Calls Tryd.prog 61 #[.pointer (some ⟨b, 0, none⟩)] w fun e w' => e = .returned (.tuple #[]) ∧ w' = w := by
  have hc := Blk.cell k
  unfold rdr at hc
  clear k
  go_enter Tryd.func61, Tryd.ntmps61
  go_wp2
  go_end0
  exact ⟨rfl, rfl⟩

set_option maxHeartbeats 1000000 in
theorem rmom_ok (k : Rd w b [] y m d h mi s wk 0) (hr : rightB y m d h mi s = true) (t0 : 0 ≤ mom y m d h mi s) (t1 : mom y m d h mi s ≤ 4102444799) :
    Calls Tryd.prog 62 #[.pointer (some ⟨b, 0, none⟩)] w fun e w' => e = .returned (.tuple #[.int .i64 (mom y m d h mi s), .nilIface]) ∧ Below w.heap.size w w' := by
  have K : Hid (Rd w b [] y m d h mi s wk 0) := k
  have hc := Blk.cell k
  unfold rdr at hc
  clear k
  have hb : btw (mom y m d h mi s) 0 4102444799 = true := btw_mk t0 t1
  go_enter Tryd.func62, Tryd.ntmps62
  go_wp2_with fail
  refine (moment_yes y m d h mi s wk _ hr).mono ?_
  rintro e w1 ⟨rfl, hb1⟩
  have hk1 := Blk.below K.out hb1 (Blk.lt K.out)
  have hc1 := Blk.cell hk1
  unfold rdr at hc1
  clear hk1
  go_wp2_with (go_at_call 42; refine (inRange_any _ _).mono ?_; rintro e w' ⟨rfl, hw⟩; obtain rfl := hw.symm)
  go_ret2
  exact ⟨rfl, hb1⟩
end
end Go.Proofs.YtjddeaeanomdhabDoor
