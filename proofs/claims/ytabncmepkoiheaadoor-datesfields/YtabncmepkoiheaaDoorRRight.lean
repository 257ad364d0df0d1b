/- Which dates are right, by the document. -/
import Derived.Test.YtabncmepkoiheaaDoorRight
import Derived.Test.YtabncmepkoiheaaDoorRDays
import Derived.Test.YtabncmepkoiheaaDoorCalm
namespace Go.Proofs.YtabncmepkoiheaaDoor
open Go.RowKit

set_option maxHeartbeats 1000000 in
theorem rright_0 (y m d h mi s wk : Int) (w : World)  (no : decide (1970 ≤ y) = false) :
    Calls Tryd.prog 49 #[.agg #[.int .i64 y, .int .i64 m, .int .i64 d, .int .i64 h, .int .i64 mi, .int .i64 s, .int .i64 wk]] w fun e w' => e = .returned (.bool false) ∧ Below w.heap.size w w' := by
  have hn := ext_some (w.alloc (.cells #[.int .i64 y, .int .i64 m, .int .i64 d, .int .i64 h, .int .i64 mi, .int .i64 s, .int .i64 wk] 32))
  have hc := ext_cell (w.alloc (.cells #[.int .i64 y, .int .i64 m, .int .i64 d, .int .i64 h, .int .i64 mi, .int .i64 s, .int .i64 wk] 32))
  go_enter Tryd.func49, Tryd.ntmps49
  go_wp2
  refine wp_region_ext (by kernel_rfl) (by kernel_rfl) ?_
  repeat (go_big_quiet_step ((go_at_call 60; exact ext_call (rdays_any _ _ _))))
  refine wpQuiet_nil ?_
  rintro _ ⟨⟨w1, hb1⟩, rfl⟩
  go_wp2
  go_ret
  exact ⟨rfl, ((Below.refl _ _).alloc (Nat.le_refl _) _).trans (hb1.mono (by simp))⟩

set_option maxHeartbeats 1000000 in
theorem rright_1 (y m d h mi s wk : Int) (w : World) (y1 : 1970 ≤ y) (no : decide (y ≤ 2099) = false) :
    Calls Tryd.prog 49 #[.agg #[.int .i64 y, .int .i64 m, .int .i64 d, .int .i64 h, .int .i64 mi, .int .i64 s, .int .i64 wk]] w fun e w' => e = .returned (.bool false) ∧ Below w.heap.size w w' := by
  have hn := ext_some (w.alloc (.cells #[.int .i64 y, .int .i64 m, .int .i64 d, .int .i64 h, .int .i64 mi, .int .i64 s, .int .i64 wk] 32))
  have hc := ext_cell (w.alloc (.cells #[.int .i64 y, .int .i64 m, .int .i64 d, .int .i64 h, .int .i64 mi, .int .i64 s, .int .i64 wk] 32))
  go_enter Tryd.func49, Tryd.ntmps49
  go_wp2
  refine wp_region_ext (by kernel_rfl) (by kernel_rfl) ?_
  repeat (go_big_quiet_step ((go_at_call 60; exact ext_call (rdays_any _ _ _))))
  refine wpQuiet_nil ?_
  rintro _ ⟨⟨w1, hb1⟩, rfl⟩
  go_wp2
  go_ret
  exact ⟨rfl, ((Below.refl _ _).alloc (Nat.le_refl _) _).trans (hb1.mono (by simp))⟩

set_option maxHeartbeats 1000000 in
theorem rright_2 (y m d h mi s wk : Int) (w : World) (y1 : 1970 ≤ y) (y2 : y ≤ 2099) (no : decide (1 ≤ d) = false) :
    Calls Tryd.prog 49 #[.agg #[.int .i64 y, .int .i64 m, .int .i64 d, .int .i64 h, .int .i64 mi, .int .i64 s, .int .i64 wk]] w fun e w' => e = .returned (.bool false) ∧ Below w.heap.size w w' := by
  have hn := ext_some (w.alloc (.cells #[.int .i64 y, .int .i64 m, .int .i64 d, .int .i64 h, .int .i64 mi, .int .i64 s, .int .i64 wk] 32))
  have hc := ext_cell (w.alloc (.cells #[.int .i64 y, .int .i64 m, .int .i64 d, .int .i64 h, .int .i64 mi, .int .i64 s, .int .i64 wk] 32))
  go_enter Tryd.func49, Tryd.ntmps49
  go_wp2
  refine wp_region_ext (by kernel_rfl) (by kernel_rfl) ?_
  repeat (go_big_quiet_step ((go_at_call 60; exact ext_call (rdays_any _ _ _))))
  refine wpQuiet_nil ?_
  rintro _ ⟨⟨w1, hb1⟩, rfl⟩
  go_wp2
  go_ret
  exact ⟨rfl, ((Below.refl _ _).alloc (Nat.le_refl _) _).trans (hb1.mono (by simp))⟩

set_option maxHeartbeats 1000000 in
theorem rright_3 (y m d h mi s wk : Int) (w : World) (y1 : 1970 ≤ y) (y2 : y ≤ 2099) (d1 : 1 ≤ d) (no : decide (d ≤ Cal.dim y m) = false) :
    Calls Tryd.prog 49 #[.agg #[.int .i64 y, .int .i64 m, .int .i64 d, .int .i64 h, .int .i64 mi, .int .i64 s, .int .i64 wk]] w fun e w' => e = .returned (.bool false) ∧ Below w.heap.size w w' := by
  have hn := ext_some (w.alloc (.cells #[.int .i64 y, .int .i64 m, .int .i64 d, .int .i64 h, .int .i64 mi, .int .i64 s, .int .i64 wk] 32))
  have hc := ext_cell (w.alloc (.cells #[.int .i64 y, .int .i64 m, .int .i64 d, .int .i64 h, .int .i64 mi, .int .i64 s, .int .i64 wk] 32))
  go_enter Tryd.func49, Tryd.ntmps49
  go_wp2
  refine wp_region_ext (by kernel_rfl) (by kernel_rfl) ?_
  repeat (go_big_quiet_step ((go_at_call 60; exact ext_call (rdays_any _ _ _))))
  refine wpQuiet_nil ?_
  rintro _ ⟨⟨w1, hb1⟩, rfl⟩
  go_wp2
  go_ret
  exact ⟨rfl, ((Below.refl _ _).alloc (Nat.le_refl _) _).trans (hb1.mono (by simp))⟩

set_option maxHeartbeats 1000000 in
theorem rright_4 (y m d h mi s wk : Int) (w : World) (y1 : 1970 ≤ y) (y2 : y ≤ 2099) (d1 : 1 ≤ d) (d2 : d ≤ Cal.dim y m) (no : decide (0 ≤ h) = false) :
    Calls Tryd.prog 49 #[.agg #[.int .i64 y, .int .i64 m, .int .i64 d, .int .i64 h, .int .i64 mi, .int .i64 s, .int .i64 wk]] w fun e w' => e = .returned (.bool false) ∧ Below w.heap.size w w' := by
  have hn := ext_some (w.alloc (.cells #[.int .i64 y, .int .i64 m, .int .i64 d, .int .i64 h, .int .i64 mi, .int .i64 s, .int .i64 wk] 32))
  have hc := ext_cell (w.alloc (.cells #[.int .i64 y, .int .i64 m, .int .i64 d, .int .i64 h, .int .i64 mi, .int .i64 s, .int .i64 wk] 32))
  go_enter Tryd.func49, Tryd.ntmps49
  go_wp2
  refine wp_region_ext (by kernel_rfl) (by kernel_rfl) ?_
  repeat (go_big_quiet_step ((go_at_call 60; exact ext_call (rdays_any _ _ _))))
  refine wpQuiet_nil ?_
  rintro _ ⟨⟨w1, hb1⟩, rfl⟩
  go_wp2
  go_ret
  exact ⟨rfl, ((Below.refl _ _).alloc (Nat.le_refl _) _).trans (hb1.mono (by simp))⟩

set_option maxHeartbeats 1000000 in
theorem rright_5 (y m d h mi s wk : Int) (w : World) (y1 : 1970 ≤ y) (y2 : y ≤ 2099) (d1 : 1 ≤ d) (d2 : d ≤ Cal.dim y m) (a1 : 0 ≤ h) (no : decide (h ≤ 23) = false) :
    Calls Tryd.prog 49 #[.agg #[.int .i64 y, .int .i64 m, .int .i64 d, .int .i64 h, .int .i64 mi, .int .i64 s, .int .i64 wk]] w fun e w' => e = .returned (.bool false) ∧ Below w.heap.size w w' := by
  have hn := ext_some (w.alloc (.cells #[.int .i64 y, .int .i64 m, .int .i64 d, .int .i64 h, .int .i64 mi, .int .i64 s, .int .i64 wk] 32))
  have hc := ext_cell (w.alloc (.cells #[.int .i64 y, .int .i64 m, .int .i64 d, .int .i64 h, .int .i64 mi, .int .i64 s, .int .i64 wk] 32))
  go_enter Tryd.func49, Tryd.ntmps49
  go_wp2
  refine wp_region_ext (by kernel_rfl) (by kernel_rfl) ?_
  repeat (go_big_quiet_step ((go_at_call 60; exact ext_call (rdays_any _ _ _))))
  refine wpQuiet_nil ?_
  rintro _ ⟨⟨w1, hb1⟩, rfl⟩
  go_wp2
  go_ret
  exact ⟨rfl, ((Below.refl _ _).alloc (Nat.le_refl _) _).trans (hb1.mono (by simp))⟩

set_option maxHeartbeats 1000000 in
theorem rright_6 (y m d h mi s wk : Int) (w : World) (y1 : 1970 ≤ y) (y2 : y ≤ 2099) (d1 : 1 ≤ d) (d2 : d ≤ Cal.dim y m) (a1 : 0 ≤ h) (a2 : h ≤ 23) (no : decide (0 ≤ mi) = false) :
    Calls Tryd.prog 49 #[.agg #[.int .i64 y, .int .i64 m, .int .i64 d, .int .i64 h, .int .i64 mi, .int .i64 s, .int .i64 wk]] w fun e w' => e = .returned (.bool false) ∧ Below w.heap.size w w' := by
  have hn := ext_some (w.alloc (.cells #[.int .i64 y, .int .i64 m, .int .i64 d, .int .i64 h, .int .i64 mi, .int .i64 s, .int .i64 wk] 32))
  have hc := ext_cell (w.alloc (.cells #[.int .i64 y, .int .i64 m, .int .i64 d, .int .i64 h, .int .i64 mi, .int .i64 s, .int .i64 wk] 32))
  go_enter Tryd.func49, Tryd.ntmps49
  go_wp2
  refine wp_region_ext (by kernel_rfl) (by kernel_rfl) ?_
  repeat (go_big_quiet_step ((go_at_call 60; exact ext_call (rdays_any _ _ _))))
  refine wpQuiet_nil ?_
  rintro _ ⟨⟨w1, hb1⟩, rfl⟩
  go_wp2
  go_ret
  exact ⟨rfl, ((Below.refl _ _).alloc (Nat.le_refl _) _).trans (hb1.mono (by simp))⟩

set_option maxHeartbeats 1000000 in
theorem rright_7 (y m d h mi s wk : Int) (w : World) (y1 : 1970 ≤ y) (y2 : y ≤ 2099) (d1 : 1 ≤ d) (d2 : d ≤ Cal.dim y m) (a1 : 0 ≤ h) (a2 : h ≤ 23) (b1 : 0 ≤ mi) (no : decide (mi ≤ 59) = false) :
    Calls Tryd.prog 49 #[.agg #[.int .i64 y, .int .i64 m, .int .i64 d, .int .i64 h, .int .i64 mi, .int .i64 s, .int .i64 wk]] w fun e w' => e = .returned (.bool false) ∧ Below w.heap.size w w' := by
  have hn := ext_some (w.alloc (.cells #[.int .i64 y, .int .i64 m, .int .i64 d, .int .i64 h, .int .i64 mi, .int .i64 s, .int .i64 wk] 32))
  have hc := ext_cell (w.alloc (.cells #[.int .i64 y, .int .i64 m, .int .i64 d, .int .i64 h, .int .i64 mi, .int .i64 s, .int .i64 wk] 32))
  go_enter Tryd.func49, Tryd.ntmps49
  go_wp2
  refine wp_region_ext (by kernel_rfl) (by kernel_rfl) ?_
  repeat (go_big_quiet_step ((go_at_call 60; exact ext_call (rdays_any _ _ _))))
  refine wpQuiet_nil ?_
  rintro _ ⟨⟨w1, hb1⟩, rfl⟩
  go_wp2
  go_ret
  exact ⟨rfl, ((Below.refl _ _).alloc (Nat.le_refl _) _).trans (hb1.mono (by simp))⟩

set_option maxHeartbeats 1000000 in
theorem rright_8 (y m d h mi s wk : Int) (w : World) (y1 : 1970 ≤ y) (y2 : y ≤ 2099) (d1 : 1 ≤ d) (d2 : d ≤ Cal.dim y m) (a1 : 0 ≤ h) (a2 : h ≤ 23) (b1 : 0 ≤ mi) (b2 : mi ≤ 59) (no : decide (0 ≤ s) = false) :
    Calls Tryd.prog 49 #[.agg #[.int .i64 y, .int .i64 m, .int .i64 d, .int .i64 h, .int .i64 mi, .int .i64 s, .int .i64 wk]] w fun e w' => e = .returned (.bool false) ∧ Below w.heap.size w w' := by
  have hn := ext_some (w.alloc (.cells #[.int .i64 y, .int .i64 m, .int .i64 d, .int .i64 h, .int .i64 mi, .int .i64 s, .int .i64 wk] 32))
  have hc := ext_cell (w.alloc (.cells #[.int .i64 y, .int .i64 m, .int .i64 d, .int .i64 h, .int .i64 mi, .int .i64 s, .int .i64 wk] 32))
  go_enter Tryd.func49, Tryd.ntmps49
  go_wp2
  refine wp_region_ext (by kernel_rfl) (by kernel_rfl) ?_
  repeat (go_big_quiet_step ((go_at_call 60; exact ext_call (rdays_any _ _ _))))
  refine wpQuiet_nil ?_
  rintro _ ⟨⟨w1, hb1⟩, rfl⟩
  go_wp2
  go_ret
  exact ⟨rfl, ((Below.refl _ _).alloc (Nat.le_refl _) _).trans (hb1.mono (by simp))⟩

set_option maxHeartbeats 1000000 in
theorem rright_9 (y m d h mi s wk : Int) (w : World) (y1 : 1970 ≤ y) (y2 : y ≤ 2099) (d1 : 1 ≤ d) (d2 : d ≤ Cal.dim y m) (a1 : 0 ≤ h) (a2 : h ≤ 23) (b1 : 0 ≤ mi) (b2 : mi ≤ 59) (c1 : 0 ≤ s) (no : decide (s ≤ 59) = false) :
    Calls Tryd.prog 49 #[.agg #[.int .i64 y, .int .i64 m, .int .i64 d, .int .i64 h, .int .i64 mi, .int .i64 s, .int .i64 wk]] w fun e w' => e = .returned (.bool false) ∧ Below w.heap.size w w' := by
  have hn := ext_some (w.alloc (.cells #[.int .i64 y, .int .i64 m, .int .i64 d, .int .i64 h, .int .i64 mi, .int .i64 s, .int .i64 wk] 32))
  have hc := ext_cell (w.alloc (.cells #[.int .i64 y, .int .i64 m, .int .i64 d, .int .i64 h, .int .i64 mi, .int .i64 s, .int .i64 wk] 32))
  go_enter Tryd.func49, Tryd.ntmps49
  go_wp2
  refine wp_region_ext (by kernel_rfl) (by kernel_rfl) ?_
  repeat (go_big_quiet_step ((go_at_call 60; exact ext_call (rdays_any _ _ _))))
  refine wpQuiet_nil ?_
  rintro _ ⟨⟨w1, hb1⟩, rfl⟩
  go_wp2
  go_ret
  exact ⟨rfl, ((Below.refl _ _).alloc (Nat.le_refl _) _).trans (hb1.mono (by simp))⟩

set_option maxHeartbeats 1000000 in
theorem rright_10 (y m d h mi s wk : Int) (w : World) (y1 : 1970 ≤ y) (y2 : y ≤ 2099) (d1 : 1 ≤ d) (d2 : d ≤ Cal.dim y m) (a1 : 0 ≤ h) (a2 : h ≤ 23) (b1 : 0 ≤ mi) (b2 : mi ≤ 59) (c1 : 0 ≤ s) (c2 : s ≤ 59) :
    Calls Tryd.prog 49 #[.agg #[.int .i64 y, .int .i64 m, .int .i64 d, .int .i64 h, .int .i64 mi, .int .i64 s, .int .i64 wk]] w fun e w' => e = .returned (.bool true) ∧ Below w.heap.size w w' := by
  have hn := ext_some (w.alloc (.cells #[.int .i64 y, .int .i64 m, .int .i64 d, .int .i64 h, .int .i64 mi, .int .i64 s, .int .i64 wk] 32))
  have hc := ext_cell (w.alloc (.cells #[.int .i64 y, .int .i64 m, .int .i64 d, .int .i64 h, .int .i64 mi, .int .i64 s, .int .i64 wk] 32))
  go_enter Tryd.func49, Tryd.ntmps49
  go_wp2
  refine wp_region_ext (by kernel_rfl) (by kernel_rfl) ?_
  repeat (go_big_quiet_step ((go_at_call 60; exact ext_call (rdays_any _ _ _))))
  refine wpQuiet_nil ?_
  rintro _ ⟨⟨w1, hb1⟩, rfl⟩
  go_wp2
  go_ret
  exact ⟨rfl, ((Below.refl _ _).alloc (Nat.le_refl _) _).trans (hb1.mono (by simp))⟩

theorem rright_any (y m d h mi s wk : Int) (w : World) :
    Calls Tryd.prog 49 #[.agg #[.int .i64 y, .int .i64 m, .int .i64 d, .int .i64 h, .int .i64 mi, .int .i64 s, .int .i64 wk]] w fun e w' => e = .returned (.bool (rightB y m d h mi s)) ∧ Below w.heap.size w w' := by
  by_cases y1 : 1970 ≤ y
  rotate_left
  · rw [show rightB y m d h mi s = false from right_no (by omega)]
    exact rright_0 y m d h mi s wk w  (decide_eq_false y1)
  by_cases y2 : y ≤ 2099
  rotate_left
  · rw [show rightB y m d h mi s = false from right_no (by omega)]
    exact rright_1 y m d h mi s wk w y1 (decide_eq_false y2)
  by_cases d1 : 1 ≤ d
  rotate_left
  · rw [show rightB y m d h mi s = false from right_no (by omega)]
    exact rright_2 y m d h mi s wk w y1 y2 (decide_eq_false d1)
  by_cases d2 : d ≤ Cal.dim y m
  rotate_left
  · rw [show rightB y m d h mi s = false from right_no (by omega)]
    exact rright_3 y m d h mi s wk w y1 y2 d1 (decide_eq_false d2)
  by_cases a1 : 0 ≤ h
  rotate_left
  · rw [show rightB y m d h mi s = false from right_no (by omega)]
    exact rright_4 y m d h mi s wk w y1 y2 d1 d2 (decide_eq_false a1)
  by_cases a2 : h ≤ 23
  rotate_left
  · rw [show rightB y m d h mi s = false from right_no (by omega)]
    exact rright_5 y m d h mi s wk w y1 y2 d1 d2 a1 (decide_eq_false a2)
  by_cases b1 : 0 ≤ mi
  rotate_left
  · rw [show rightB y m d h mi s = false from right_no (by omega)]
    exact rright_6 y m d h mi s wk w y1 y2 d1 d2 a1 a2 (decide_eq_false b1)
  by_cases b2 : mi ≤ 59
  rotate_left
  · rw [show rightB y m d h mi s = false from right_no (by omega)]
    exact rright_7 y m d h mi s wk w y1 y2 d1 d2 a1 a2 b1 (decide_eq_false b2)
  by_cases c1 : 0 ≤ s
  rotate_left
  · rw [show rightB y m d h mi s = false from right_no (by omega)]
    exact rright_8 y m d h mi s wk w y1 y2 d1 d2 a1 a2 b1 b2 (decide_eq_false c1)
  by_cases c2 : s ≤ 59
  rotate_left
  · rw [show rightB y m d h mi s = false from right_no (by omega)]
    exact rright_9 y m d h mi s wk w y1 y2 d1 d2 a1 a2 b1 b2 c1 (decide_eq_false c2)
  · rw [show rightB y m d h mi s = true from right_yes (by omega) (by omega) (right_month d1 d2).1 (right_month d1 d2).2 (by omega) (by omega) (by omega) (by omega) (by omega) (by omega) (by omega) (by omega)]
    exact rright_10 y m d h mi s wk w y1 y2 d1 d2 a1 a2 b1 b2 c1 c2
end Go.Proofs.YtabncmepkoiheaaDoor
