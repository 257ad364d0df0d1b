/- Contracts of the small functions of package dates and of the document's: leap years, days of months, ranges. -/
import Derived.Test.YtcmhaihoeecjoaaGreatDoorProg
import Derived.WalkKit
import Derived.WalkLawsBesides
section
/- The calendar in plain numbers: leap years, days of months, days ahead of a year and of a month, and the date of a day's number. No program stands in it. -/
namespace Go.Proofs.YtcmhaihoeecjoaaGreatDoor.Da
namespace Cal

def lp (y : Int) : Int := if y % 4 = 0 ∧ y % 100 ≠ 0 ∨ y % 400 = 0 then 1 else 0
def leapB (y : Int) : Bool := decide (lp y = 1)
def dim (y m : Int) : Int :=
  if m = 2 then 28 + lp y else if m = 4 ∨ m = 6 ∨ m = 9 ∨ m = 11 then 30 else if 1 ≤ m ∧ m ≤ 12 then 31 else 0
/-- How many days there are from 1970 on ahead of a year. -/
def dby (y : Int) : Int := 365 * (y - 1970) + (y - 1969) / 4 - (y - 1901) / 100 + (y - 1601) / 400
/-- How many days of a year there are ahead of a month. -/
def cum (y m : Int) : Int :=
  if m ≤ 1 then 0 else if m = 2 then 31 else if m = 3 then 59 + lp y else if m = 4 then 90 + lp y else if m = 5 then 120 + lp y else if m = 6 then 151 + lp y
  else if m = 7 then 181 + lp y else if m = 8 then 212 + lp y else if m = 9 then 243 + lp y else if m = 10 then 273 + lp y else if m = 11 then 304 + lp y else if m = 12 then 334 + lp y else 365 + lp y
def civY (d : Int) : Int := if dby (1970 + d / 366 + 1) ≤ d then 1970 + d / 366 + 1 else 1970 + d / 366
def civM (l r : Int) : Int :=
  if r < 31 then 1 else if r < 59 + l then 2 else if r < 90 + l then 3 else if r < 120 + l then 4 else if r < 151 + l then 5 else if r < 181 + l then 6
  else if r < 212 + l then 7 else if r < 243 + l then 8 else if r < 273 + l then 9 else if r < 304 + l then 10 else if r < 334 + l then 11 else 12

theorem lp_01 (y : Int) : 0 ≤ lp y ∧ lp y ≤ 1 := by unfold lp; split <;> omega
theorem lp_cases (y : Int) : lp y = 0 ∨ lp y = 1 := by have := lp_01 y; omega
theorem leapB_true {y : Int} (h : leapB y = true) : lp y = 1 := of_decide_eq_true h
theorem leapB_false {y : Int} (h : leapB y = false) : lp y = 0 := by
  have h' : ¬ lp y = 1 := of_decide_eq_false h
  have := lp_01 y
  omega
theorem leapB_eq (y : Int) : leapB y = ((y % 4 == 0 && y % 100 != 0) || y % 400 == 0) := by
  unfold leapB lp
  rw [Bool.eq_iff_iff]
  simp
theorem tmod_zero (y k : Int) : (y.tmod k == 0) = (y % k == 0) := by
  rw [Bool.eq_iff_iff]
  simp only [beq_iff_eq]
  rw [← Int.dvd_iff_tmod_eq_zero, Int.dvd_iff_emod_eq_zero]
theorem leapB_tmod (y : Int) : leapB y = ((y.tmod 4 == 0 && y.tmod 100 != 0) || y.tmod 400 == 0) := by
  rw [leapB_eq, tmod_zero, tmod_zero]
  rw [show (y.tmod 100 != 0) = (y % 100 != 0) from by rw [bne, bne, tmod_zero]]
theorem dby_succ (y : Int) : dby (y + 1) = dby y + 365 + lp y := by
  unfold dby lp
  split <;> omega
theorem dby_0 : dby 1970 = 0 := by decide
theorem dby_last : dby 2100 = 47482 := by decide
theorem dim_range (y m : Int) : 0 ≤ dim y m ∧ dim y m ≤ 31 := by
  have := lp_01 y
  unfold dim; repeat' split
  all_goals omega
theorem dim_pos (y m : Int) (h1 : 1 ≤ m) (h2 : m ≤ 12) : 28 ≤ dim y m := by
  have := lp_01 y
  unfold dim; repeat' split
  all_goals omega
theorem cum_succ (y m : Int) (h1 : 1 ≤ m) (h2 : m ≤ 12) : cum y (m + 1) = cum y m + dim y m := by
  have h : m = 1 ∨ m = 2 ∨ m = 3 ∨ m = 4 ∨ m = 5 ∨ m = 6 ∨ m = 7 ∨ m = 8 ∨ m = 9 ∨ m = 10 ∨ m = 11 ∨ m = 12 := by omega
  rcases h with rfl | rfl | rfl | rfl | rfl | rfl | rfl | rfl | rfl | rfl | rfl | rfl <;> simp [cum, dim] <;> omega
theorem cum_range (y m : Int) (h1 : 1 ≤ m) (h2 : m ≤ 13) : 0 ≤ cum y m ∧ cum y m ≤ 366 := by
  have := lp_01 y
  have h : m = 1 ∨ m = 2 ∨ m = 3 ∨ m = 4 ∨ m = 5 ∨ m = 6 ∨ m = 7 ∨ m = 8 ∨ m = 9 ∨ m = 10 ∨ m = 11 ∨ m = 12 ∨ m = 13 := by omega
  rcases h with rfl | rfl | rfl | rfl | rfl | rfl | rfl | rfl | rfl | rfl | rfl | rfl | rfl <;> simp [cum] <;> omega
theorem civY_spec (d : Int) (h0 : 0 ≤ d) (h1 : d ≤ 47481) : 1970 ≤ civY d ∧ civY d ≤ 2099 ∧ dby (civY d) ≤ d ∧ d < dby (civY d + 1) := by
  unfold civY dby
  split <;> omega
/-- A day's number lies in one year alone. -/
theorem dby_mono (a b : Int) (h : a ≤ b) : dby a ≤ dby b := by
  by_cases e : a = b
  · subst e; exact Int.le_refl _
  · unfold dby; omega
theorem year_one (d y z : Int) (a : dby y ≤ d) (b : d < dby (y + 1)) (c : dby z ≤ d) (e : d < dby (z + 1)) : y = z := by
  rcases Int.lt_trichotomy y z with h | h | h
  · have := dby_mono (y + 1) z (by omega); omega
  · exact h
  · have := dby_mono (z + 1) y (by omega); omega
theorem civM_spec (y r : Int) (h0 : 0 ≤ r) (h1 : r < 365 + lp y) : 1 ≤ civM (lp y) r ∧ civM (lp y) r ≤ 12 ∧ cum y (civM (lp y) r) ≤ r ∧ r < cum y (civM (lp y) r) + dim y (civM (lp y) r) := by
  have := lp_01 y
  unfold civM
  repeat' split
  all_goals (simp [cum, dim]; omega)
theorem civM_of (y r m : Int) (m1 : 1 ≤ m) (m2 : m ≤ 12) (a : cum y m ≤ r) (b : r < cum y m + dim y m) : m = civM (lp y) r := by
  have := lp_01 y
  have h : m = 1 ∨ m = 2 ∨ m = 3 ∨ m = 4 ∨ m = 5 ∨ m = 6 ∨ m = 7 ∨ m = 8 ∨ m = 9 ∨ m = 10 ∨ m = 11 ∨ m = 12 := by omega
  unfold civM
  rcases h with rfl | rfl | rfl | rfl | rfl | rfl | rfl | rfl | rfl | rfl | rfl | rfl <;> simp [cum, dim] at a b <;> (repeat (first | rw [if_pos (by omega)] | rw [if_neg (by omega)]))
theorem dby_bd (y : Int) (h0 : 1970 ≤ y) (h : y ≤ 2100) : 0 ≤ dby y ∧ dby y ≤ 47482 := by unfold dby; omega
theorem civY_of (d y : Int) (h0 : 0 ≤ d) (h1 : d ≤ 47481) (a : dby y ≤ d) (b : d < dby (y + 1)) : y = civY d := by
  obtain ⟨p, q, r, s⟩ := civY_spec d h0 h1
  exact year_one d y (civY d) a b r s
/-- Year, month and day of the day that has d days ahead of it. -/
def cy (d : Int) : Int := civY d
def cm (d : Int) : Int := civM (lp (civY d)) (d - dby (civY d))
def cd (d : Int) : Int := d - dby (cy d) - cum (cy d) (cm d) + 1
theorem date_spec (d : Int) (h0 : 0 ≤ d) (h1 : d ≤ 47481) : 1970 ≤ cy d ∧ cy d ≤ 2099 ∧ 1 ≤ cm d ∧ cm d ≤ 12 ∧ 1 ≤ cd d ∧ cd d ≤ dim (cy d) (cm d) ∧ d = dby (cy d) + cum (cy d) (cm d) + cd d - 1 := by
  obtain ⟨a, b, c, e⟩ := civY_spec d h0 h1
  have hs := dby_succ (civY d)
  obtain ⟨p, q, r, t⟩ := civM_spec (civY d) (d - dby (civY d)) (by omega) (by omega)
  unfold cd
  unfold cy cm
  exact ⟨a, b, p, q, by omega, by omega, by omega⟩
theorem date_of (d y m : Int) (h0 : 0 ≤ d) (h1 : d ≤ 47481) (hy : dby y ≤ d) (hy' : d < dby (y + 1)) (m1 : 1 ≤ m) (m2 : m ≤ 12) (a : cum y m ≤ d - dby y) (b : d - dby y < cum y m + dim y m) :
    y = cy d ∧ m = cm d ∧ d - dby y - cum y m + 1 = cd d := by
  have e := civY_of d y h0 h1 hy hy'
  have f := civM_of y (d - dby y) m m1 m2 a b
  have e' : y = cy d := e
  have f' : m = cm d := by unfold cm; rw [← e]; exact f
  refine ⟨e', f', ?_⟩
  unfold cd
  rw [← e', ← f']
/-- The numbers of a right date's day are that date's. -/
theorem date_back (y m k : Int) (y1 : 1970 ≤ y) (y2 : y ≤ 2099) (m1 : 1 ≤ m) (m2 : m ≤ 12) (k1 : 1 ≤ k) (k2 : k ≤ dim y m) :
    0 ≤ dby y + cum y m + k - 1 ∧ dby y + cum y m + k - 1 ≤ 47481 ∧ cy (dby y + cum y m + k - 1) = y ∧ cm (dby y + cum y m + k - 1) = m ∧ cd (dby y + cum y m + k - 1) = k := by
  have b1 := dby_bd y y1 (by omega)
  have b2 := dby_bd (y + 1) (by omega) (by omega)
  have c1 := cum_range y m m1 (by omega)
  have c2 := cum_range y (m + 1) (by omega) (by omega)
  have cs := cum_succ y m m1 m2
  have ys := dby_succ y
  have l1 := lp_01 y
  have c3 : cum y (m + 1) ≤ 365 + lp y := by
    have h : m = 1 ∨ m = 2 ∨ m = 3 ∨ m = 4 ∨ m = 5 ∨ m = 6 ∨ m = 7 ∨ m = 8 ∨ m = 9 ∨ m = 10 ∨ m = 11 ∨ m = 12 := by omega
    rcases h with rfl | rfl | rfl | rfl | rfl | rfl | rfl | rfl | rfl | rfl | rfl | rfl <;> simp [cum] <;> omega
  obtain ⟨p, q, r⟩ := date_of (dby y + cum y m + k - 1) y m (by omega) (by omega) (by omega) (by omega) m1 m2 (by omega) (by omega)
  exact ⟨by omega, by omega, p.symm, q.symm, by omega⟩
end Cal
end Go.Proofs.YtcmhaihoeecjoaaGreatDoor.Da

end
section
namespace Go.Proofs.YtcmhaihoeecjoaaGreatDoor.Da
open Go.RowKit

theorem ret_int {k : IntKind} {a b : Int} (h : a = b) : Ending.returned (.int k a) = .returned (.int k b) := by rw [h]
theorem ret_bool {a b : Bool} (h : a = b) : Ending.returned (.bool a) = .returned (.bool b) := by rw [h]

set_option maxHeartbeats 400000 in
theorem leap_any (y : Int) (w : World) :
    Calls Tryz.prog 138 #[.int .i64 y] w fun e w' => e = .returned (.bool (Cal.leapB y)) ∧ w' = w := by
  go_enter Tryz.func138, Tryz.ntmps138
  go_wp2
  all_goals go_ret
  all_goals exact ⟨ret_bool (by simp [Cal.leapB_tmod, *]), rfl⟩

set_option maxHeartbeats 400000 in
theorem rleap_any (y : Int) (w : World) :
    Calls Tryz.prog 101 #[.int .i64 y] w fun e w' => e = .returned (.bool (Cal.leapB y)) ∧ w' = w := by
  go_enter Tryz.func101, Tryz.ntmps101
  go_wp2
  all_goals go_ret
  all_goals exact ⟨ret_bool (by simp [Cal.leapB_tmod, *]), rfl⟩

theorem yd_any (y : Int) (w : World) :
    Calls Tryz.prog 130 #[.int .i64 y] w fun e w' => e = .returned (.int .i64 (365 + Cal.lp y)) ∧ w' = w := by
  cases h : Cal.leapB y
  · have hl := Cal.leapB_false h
    go_enter Tryz.func130, Tryz.ntmps130
    go_wp2_with (go_at_call 138; refine (leap_any _ _).mono ?_; rintro e w' ⟨rfl, rfl⟩)
    go_ret
    exact ⟨ret_int (by omega), rfl⟩
  · have hl := Cal.leapB_true h
    go_enter Tryz.func130, Tryz.ntmps130
    go_wp2_with (go_at_call 138; refine (leap_any _ _).mono ?_; rintro e w' ⟨rfl, rfl⟩)
    go_ret
    exact ⟨ret_int (by omega), rfl⟩

def btw (n a b : Int) : Bool := decide (a ≤ n ∧ n ≤ b)
theorem btw_true {n a b : Int} (h : btw n a b = true) : a ≤ n ∧ n ≤ b := of_decide_eq_true h
theorem btw_false {n a b : Int} (h : btw n a b = false) : n < a ∨ b < n := by have : ¬ (a ≤ n ∧ n ≤ b) := of_decide_eq_false h; omega
theorem btw_mk {n a b : Int} (h1 : a ≤ n) (h2 : n ≤ b) : btw n a b = true := decide_eq_true ⟨h1, h2⟩
theorem btw_not {n a b : Int} (h : n < a ∨ b < n) : btw n a b = false := decide_eq_false (by omega)
theorem between_any (n a b : Int) (w : World) :
    Calls Tryz.prog 129 #[.int .i64 n, .int .i64 a, .int .i64 b] w fun e w' => e = .returned (.bool (btw n a b)) ∧ w' = w := by
  by_cases h : a ≤ n
  · go_enter Tryz.func129, Tryz.ntmps129
    go_wp2
    go_ret
    exact ⟨ret_bool (by simp [btw, h]), rfl⟩
  · go_enter Tryz.func129, Tryz.ntmps129
    go_wp2
    go_ret
    exact ⟨ret_bool (btw_not (by omega)).symm, rfl⟩

theorem inRange_any (t : Int) (w : World) :
    Calls Tryz.prog 117 #[.int .i64 t] w fun e w' => e = .returned (.bool (btw t 0 4102444799)) ∧ w' = w := by
  go_enter Tryz.func117, Tryz.ntmps117
  go_wp2_with (go_at_call 129; refine (between_any _ _ _ _).mono ?_; rintro e w' ⟨rfl, rfl⟩)
  go_ret
  exact ⟨rfl, rfl⟩

set_option maxHeartbeats 1000000 in
theorem days_any (y m : Int) (w : World) :
    Calls Tryz.prog 131 #[.int .i64 y, .int .i64 m] w fun e w' => e = .returned (.int .i64 (Cal.dim y m)) ∧ w' = w := by
  by_cases hm : 1 ≤ m ∧ m ≤ 12
  · have h : m = 1 ∨ m = 2 ∨ m = 3 ∨ m = 4 ∨ m = 5 ∨ m = 6 ∨ m = 7 ∨ m = 8 ∨ m = 9 ∨ m = 10 ∨ m = 11 ∨ m = 12 := by omega
    clear hm
    rcases h with rfl | rfl | rfl | rfl | rfl | rfl | rfl | rfl | rfl | rfl | rfl | rfl
    case inr.inl =>
      cases h : Cal.leapB y
      · have hl := Cal.leapB_false h
        have HL : Hid (Cal.lp y = 0) := hl
        clear hl
        go_enter Tryz.func131, Tryz.ntmps131
        go_wp2_with (go_at_call 138; refine (leap_any _ _).mono ?_; rintro e w' ⟨rfl, rfl⟩)
        go_ret
        exact ⟨ret_int (by simp [Cal.dim, HL.out]), rfl⟩
      · have hl := Cal.leapB_true h
        have HL : Hid (Cal.lp y = 1) := hl
        clear hl
        go_enter Tryz.func131, Tryz.ntmps131
        go_wp2_with (go_at_call 138; refine (leap_any _ _).mono ?_; rintro e w' ⟨rfl, rfl⟩)
        go_ret
        exact ⟨ret_int (by simp [Cal.dim, HL.out]), rfl⟩
    all_goals
      go_enter Tryz.func131, Tryz.ntmps131
      go_wp2
      go_ret
      exact ⟨ret_int (by simp [Cal.dim]), rfl⟩
  · have hd : Cal.dim y m = 0 := by unfold Cal.dim; rw [if_neg (by omega), if_neg (by omega), if_neg hm]
    have HD : Hid (Cal.dim y m = 0) := hd
    clear hd
    have n1 : (m == 1) = false := by simp; omega
    have n2 : (m == 2) = false := by simp; omega
    have n3 : (m == 3) = false := by simp; omega
    have n4 : (m == 4) = false := by simp; omega
    have n5 : (m == 5) = false := by simp; omega
    have n6 : (m == 6) = false := by simp; omega
    have n7 : (m == 7) = false := by simp; omega
    have n8 : (m == 8) = false := by simp; omega
    have n9 : (m == 9) = false := by simp; omega
    have n10 : (m == 10) = false := by simp; omega
    have n11 : (m == 11) = false := by simp; omega
    have n12 : (m == 12) = false := by simp; omega
    go_enter Tryz.func131, Tryz.ntmps131
    go_wp2
    go_ret
    exact ⟨ret_int HD.out.symm, rfl⟩
end Go.Proofs.YtcmhaihoeecjoaaGreatDoor.Da

end
