/- Contracts of the small functions of package dates and of the document's: leap years, days of months, ranges. -/
import Derived.Test.YtcmhaihoeecjoaaGreatDoorProg
import Derived.Test.YtcmhaihoeecjoaaGreatDoorCal
import Derived.WalkKit
import Derived.WalkLawsBesides
namespace Go.Proofs.YtcmhaihoeecjoaaGreatDoor.Da
open Go.RowKit

theorem ret_int {k : IntKind} {a b : Int} (h : a = b) : Ending.returned (.int k a) = .returned (.int k b) := by rw [h]
theorem ret_bool {a b : Bool} (h : a = b) : Ending.returned (.bool a) = .returned (.bool b) := by rw [h]

set_option maxHeartbeats 400000 in
theorem leap_any (y : Int) (w : World) :
    Calls Tryz.prog 138 #[.int .i64 y] w fun e w' => e = .returned (.bool (Cal.leapB y)) ∧ w' = w := by
  go_enter Tryz.func138, Tryz.ntmps138
  go_wp2
  all_goals go_ret
  all_goals exact ⟨ret_bool (by simp [Cal.leapB_tmod, *]), rfl⟩

set_option maxHeartbeats 400000 in
theorem rleap_any (y : Int) (w : World) :
    Calls Tryz.prog 101 #[.int .i64 y] w fun e w' => e = .returned (.bool (Cal.leapB y)) ∧ w' = w := by
  go_enter Tryz.func101, Tryz.ntmps101
  go_wp2
  all_goals go_ret
  all_goals exact ⟨ret_bool (by simp [Cal.leapB_tmod, *]), rfl⟩

theorem yd_any (y : Int) (w : World) :
    Calls Tryz.prog 130 #[.int .i64 y] w fun e w' => e = .returned (.int .i64 (365 + Cal.lp y)) ∧ w' = w := by
  cases h : Cal.leapB y
  · have hl := Cal.leapB_false h
    go_enter Tryz.func130, Tryz.ntmps130
    go_wp2_with (go_at_call 138; refine (leap_any _ _).mono ?_; rintro e w' ⟨rfl, rfl⟩)
    go_ret
    exact ⟨ret_int (by omega), rfl⟩
  · have hl := Cal.leapB_true h
    go_enter Tryz.func130, Tryz.ntmps130
    go_wp2_with (go_at_call 138; refine (leap_any _ _).mono ?_; rintro e w' ⟨rfl, rfl⟩)
    go_ret
    exact ⟨ret_int (by omega), rfl⟩

def btw (n a b : Int) : Bool := decide (a ≤ n ∧ n ≤ b)
theorem btw_true {n a b : Int} (h : btw n a b = true) : a ≤ n ∧ n ≤ b := of_decide_eq_true h
theorem btw_false {n a b : Int} (h : btw n a b = false) : n < a ∨ b < n := by have : ¬ (a ≤ n ∧ n ≤ b) := of_decide_eq_false h; omega
theorem btw_mk {n a b : Int} (h1 : a ≤ n) (h2 : n ≤ b) : btw n a b = true := decide_eq_true ⟨h1, h2⟩
theorem btw_not {n a b : Int} (h : n < a ∨ b < n) : btw n a b = false := decide_eq_false (by omega)
theorem between_any (n a b : Int) (w : World) :
    Calls Tryz.prog 129 #[.int .i64 n, .int .i64 a, .int .i64 b] w fun e w' => e = .returned (.bool (btw n a b)) ∧ w' = w := by
  by_cases h : a ≤ n
  · go_enter Tryz.func129, Tryz.ntmps129
    go_wp2
    go_ret
    exact ⟨ret_bool (by simp [btw, h]), rfl⟩
  · go_enter Tryz.func129, Tryz.ntmps129
    go_wp2
    go_ret
    exact ⟨ret_bool (btw_not (by omega)).symm, rfl⟩

theorem inRange_any (t : Int) (w : World) :
    Calls Tryz.prog 117 #[.int .i64 t] w fun e w' => e = .returned (.bool (btw t 0 4102444799)) ∧ w' = w := by
  go_enter Tryz.func117, Tryz.ntmps117
  go_wp2_with (go_at_call 129; refine (between_any _ _ _ _).mono ?_; rintro e w' ⟨rfl, rfl⟩)
  go_ret
  exact ⟨rfl, rfl⟩

set_option maxHeartbeats 1000000 in
theorem days_any (y m : Int) (w : World) :
    Calls Tryz.prog 131 #[.int .i64 y, .int .i64 m] w fun e w' => e = .returned (.int .i64 (Cal.dim y m)) ∧ w' = w := by
  by_cases hm : 1 ≤ m ∧ m ≤ 12
  · have h : m = 1 ∨ m = 2 ∨ m = 3 ∨ m = 4 ∨ m = 5 ∨ m = 6 ∨ m = 7 ∨ m = 8 ∨ m = 9 ∨ m = 10 ∨ m = 11 ∨ m = 12 := by omega
    clear hm
    rcases h with rfl | rfl | rfl | rfl | rfl | rfl | rfl | rfl | rfl | rfl | rfl | rfl
    case inr.inl =>
      cases h : Cal.leapB y
      · have hl := Cal.leapB_false h
        have HL : Hid (Cal.lp y = 0) := hl
        clear hl
        go_enter Tryz.func131, Tryz.ntmps131
        go_wp2_with (go_at_call 138; refine (leap_any _ _).mono ?_; rintro e w' ⟨rfl, rfl⟩)
        go_ret
        exact ⟨ret_int (by simp [Cal.dim, HL.out]), rfl⟩
      · have hl := Cal.leapB_true h
        have HL : Hid (Cal.lp y = 1) := hl
        clear hl
        go_enter Tryz.func131, Tryz.ntmps131
        go_wp2_with (go_at_call 138; refine (leap_any _ _).mono ?_; rintro e w' ⟨rfl, rfl⟩)
        go_ret
        exact ⟨ret_int (by simp [Cal.dim, HL.out]), rfl⟩
    all_goals
      go_enter Tryz.func131, Tryz.ntmps131
      go_wp2
      go_ret
      exact ⟨ret_int (by simp [Cal.dim]), rfl⟩
  · have hd : Cal.dim y m = 0 := by unfold Cal.dim; rw [if_neg (by omega), if_neg (by omega), if_neg hm]
    have HD : Hid (Cal.dim y m = 0) := hd
    clear hd
    have n1 : (m == 1) = false := by simp; omega
    have n2 : (m == 2) = false := by simp; omega
    have n3 : (m == 3) = false := by simp; omega
    have n4 : (m == 4) = false := by simp; omega
    have n5 : (m == 5) = false := by simp; omega
    have n6 : (m == 6) = false := by simp; omega
    have n7 : (m == 7) = false := by simp; omega
    have n8 : (m == 8) = false := by simp; omega
    have n9 : (m == 9) = false := by simp; omega
    have n10 : (m == 10) = false := by simp; omega
    have n11 : (m == 11) = false := by simp; omega
    have n12 : (m == 12) = false := by simp; omega
    go_enter Tryz.func131, Tryz.ntmps131
    go_wp2
    go_ret
    exact ⟨ret_int HD.out.symm, rfl⟩
end Go.Proofs.YtcmhaihoeecjoaaGreatDoor.Da
