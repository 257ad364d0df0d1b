/- Contracts of the small functions of package dates and of the document's: leap years, days of months, ranges. -/
import Derived.Test.YtcmhaihoeecjoaaDoorProg
import Derived.Test.YtcmhaihoeecjoaaDoorCal
import Derived.WalkKit
import Derived.WalkLawsBesides
namespace Go.Proofs.YtcmhaihoeecjoaaDoor.Da
open Go.RowKit

theorem ret_int {k : IntKind} {a b : Int} (h : a = b) : Ending.returned (.int k a) = .returned (.int k b) := by rw [h]
theorem ret_bool {a b : Bool} (h : a = b) : Ending.returned (.bool a) = .returned (.bool b) := by rw [h]

set_option maxHeartbeats 400000 in
theorem leap_any (y : Int) (w : World) :
    Calls Tryd.prog 82 #[.int .i64 y] w fun e w' => e = .returned (.bool (Cal.leapB y)) ∧ w' = w := by
  go_enter Tryd.func82, Tryd.ntmps82
  go_wp2
  all_goals go_ret
  all_goals exact ⟨ret_bool (by simp [Cal.leapB_tmod, *]), rfl⟩

theorem yd_any (y : Int) (w : World) :
    Calls Tryd.prog 76 #[.int .i64 y] w fun e w' => e = .returned (.int .i64 (365 + Cal.lp y)) ∧ w' = w := by
  cases h : Cal.leapB y
  · have hl := Cal.leapB_false h
    go_enter Tryd.func76, Tryd.ntmps76
    go_wp2_with (go_at_call 82; refine (leap_any _ _).mono ?_; rintro e w' ⟨rfl, rfl⟩)
    go_ret
    exact ⟨ret_int (by omega), rfl⟩
  · have hl := Cal.leapB_true h
    go_enter Tryd.func76, Tryd.ntmps76
    go_wp2_with (go_at_call 82; refine (leap_any _ _).mono ?_; rintro e w' ⟨rfl, rfl⟩)
    go_ret
    exact ⟨ret_int (by omega), rfl⟩

def btw (n a b : Int) : Bool := decide (a ≤ n ∧ n ≤ b)
theorem btw_true {n a b : Int} (h : btw n a b = true) : a ≤ n ∧ n ≤ b := of_decide_eq_true h
theorem btw_false {n a b : Int} (h : btw n a b = false) : n < a ∨ b < n := by have : ¬ (a ≤ n ∧ n ≤ b) := of_decide_eq_false h; omega
theorem btw_mk {n a b : Int} (h1 : a ≤ n) (h2 : n ≤ b) : btw n a b = true := decide_eq_true ⟨h1, h2⟩
theorem btw_not {n a b : Int} (h : n < a ∨ b < n) : btw n a b = false := decide_eq_false (by omega)
theorem between_any (n a b : Int) (w : World) :
    Calls Tryd.prog 75 #[.int .i64 n, .int .i64 a, .int .i64 b] w fun e w' => e = .returned (.bool (btw n a b)) ∧ w' = w := by
  by_cases h : a ≤ n
  · go_enter Tryd.func75, Tryd.ntmps75
    go_wp2
    go_ret
    exact ⟨ret_bool (by simp [btw, h]), rfl⟩
  · go_enter Tryd.func75, Tryd.ntmps75
    go_wp2
    go_ret
    exact ⟨ret_bool (btw_not (by omega)).symm, rfl⟩

theorem inRange_any (t : Int) (w : World) :
    Calls Tryd.prog 70 #[.int .i64 t] w fun e w' => e = .returned (.bool (btw t 0 4102444799)) ∧ w' = w := by
  go_enter Tryd.func70, Tryd.ntmps70
  go_wp2_with (go_at_call 75; refine (between_any _ _ _ _).mono ?_; rintro e w' ⟨rfl, rfl⟩)
  go_ret
  exact ⟨rfl, rfl⟩

set_option maxHeartbeats 1000000 in
theorem days_any (y m : Int) (w : World) :
    Calls Tryd.prog 77 #[.int .i64 y, .int .i64 m] w fun e w' => e = .returned (.int .i64 (Cal.dim y m)) ∧ w' = w := by
  by_cases hm : 1 ≤ m ∧ m ≤ 12
  · have h : m = 1 ∨ m = 2 ∨ m = 3 ∨ m = 4 ∨ m = 5 ∨ m = 6 ∨ m = 7 ∨ m = 8 ∨ m = 9 ∨ m = 10 ∨ m = 11 ∨ m = 12 := by omega
    clear hm
    rcases h with rfl | rfl | rfl | rfl | rfl | rfl | rfl | rfl | rfl | rfl | rfl | rfl
    case inr.inl =>
      cases h : Cal.leapB y
      · have hl := Cal.leapB_false h
        have HL : Hid (Cal.lp y = 0) := hl
        clear hl
        go_enter Tryd.func77, Tryd.ntmps77
        go_wp2_with (go_at_call 82; refine (leap_any _ _).mono ?_; rintro e w' ⟨rfl, rfl⟩)
        go_ret
        exact ⟨ret_int (by simp [Cal.dim, HL.out]), rfl⟩
      · have hl := Cal.leapB_true h
        have HL : Hid (Cal.lp y = 1) := hl
        clear hl
        go_enter Tryd.func77, Tryd.ntmps77
        go_wp2_with (go_at_call 82; refine (leap_any _ _).mono ?_; rintro e w' ⟨rfl, rfl⟩)
        go_ret
        exact ⟨ret_int (by simp [Cal.dim, HL.out]), rfl⟩
    all_goals
      go_enter Tryd.func77, Tryd.ntmps77
      go_wp2
      go_ret
      exact ⟨ret_int (by simp [Cal.dim]), rfl⟩
  · have hd : Cal.dim y m = 0 := by unfold Cal.dim; rw [if_neg (by omega), if_neg (by omega), if_neg hm]
    have HD : Hid (Cal.dim y m = 0) := hd
    clear hd
    have n1 : (m == 1) = false := by simp; omega
    have n2 : (m == 2) = false := by simp; omega
    have n3 : (m == 3) = false := by simp; omega
    have n4 : (m == 4) = false := by simp; omega
    have n5 : (m == 5) = false := by simp; omega
    have n6 : (m == 6) = false := by simp; omega
    have n7 : (m == 7) = false := by simp; omega
    have n8 : (m == 8) = false := by simp; omega
    have n9 : (m == 9) = false := by simp; omega
    have n10 : (m == 10) = false := by simp; omega
    have n11 : (m == 11) = false := by simp; omega
    have n12 : (m == 12) = false := by simp; omega
    go_enter Tryd.func77, Tryd.ntmps77
    go_wp2
    go_ret
    exact ⟨ret_int HD.out.symm, rfl⟩
end Go.Proofs.YtcmhaihoeecjoaaDoor.Da
