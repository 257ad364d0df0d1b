/- Which dates are right, by the document. -/
/- The document's moments and dates: before, Civil. -/
import Derived.Test.YtcmhaihoeecjoaaGreatDoorU24
import Derived.Test.YtcmhaihoeecjoaaGreatDoorU25
import Derived.Test.YtcmhaihoeecjoaaGreatDoorU11
import Derived.Test.YtcmhaihoeecjoaaGreatDoorU01
import Derived.RegionTactic
import Derived.ChangeAlike
section
namespace Go.Proofs.YtcmhaihoeecjoaaGreatDoor.Da
open Go.RowKit

set_option maxHeartbeats 1000000 in
theorem rright_0 (y m d h mi s wk : Int) (w : World)  (no : decide (1970 ≤ y) = false) :
    Calls Tryz.prog 93 #[.agg #[.int .i64 y, .int .i64 m, .int .i64 d, .int .i64 h, .int .i64 mi, .int .i64 s, .int .i64 wk]] w fun e w' => e = .returned (.bool false) ∧ Below w.heap.size w w' := by
  have hn := ext_some (w.alloc (.cells #[.int .i64 y, .int .i64 m, .int .i64 d, .int .i64 h, .int .i64 mi, .int .i64 s, .int .i64 wk] 81))
  have hc := ext_cell (w.alloc (.cells #[.int .i64 y, .int .i64 m, .int .i64 d, .int .i64 h, .int .i64 mi, .int .i64 s, .int .i64 wk] 81))
  go_enter Tryz.func93, Tryz.ntmps93
  go_wp2
  refine wp_region_ext (by kernel_rfl) (by kernel_rfl) ?_
  repeat (go_big_quiet_step ((go_at_call 76; exact ext_call (rdays_any _ _ _))))
  refine wpQuiet_nil ?_
  rintro _ ⟨⟨w1, hb1⟩, rfl⟩
  go_wp2
  go_ret
  exact ⟨rfl, ((Below.refl _ _).alloc (Nat.le_refl _) _).trans (hb1.mono (by simp))⟩

set_option maxHeartbeats 1000000 in
theorem rright_1 (y m d h mi s wk : Int) (w : World) (y1 : 1970 ≤ y) (no : decide (y ≤ 2099) = false) :
    Calls Tryz.prog 93 #[.agg #[.int .i64 y, .int .i64 m, .int .i64 d, .int .i64 h, .int .i64 mi, .int .i64 s, .int .i64 wk]] w fun e w' => e = .returned (.bool false) ∧ Below w.heap.size w w' := by
  have hn := ext_some (w.alloc (.cells #[.int .i64 y, .int .i64 m, .int .i64 d, .int .i64 h, .int .i64 mi, .int .i64 s, .int .i64 wk] 81))
  have hc := ext_cell (w.alloc (.cells #[.int .i64 y, .int .i64 m, .int .i64 d, .int .i64 h, .int .i64 mi, .int .i64 s, .int .i64 wk] 81))
  go_enter Tryz.func93, Tryz.ntmps93
  go_wp2
  refine wp_region_ext (by kernel_rfl) (by kernel_rfl) ?_
  repeat (go_big_quiet_step ((go_at_call 76; exact ext_call (rdays_any _ _ _))))
  refine wpQuiet_nil ?_
  rintro _ ⟨⟨w1, hb1⟩, rfl⟩
  go_wp2
  go_ret
  exact ⟨rfl, ((Below.refl _ _).alloc (Nat.le_refl _) _).trans (hb1.mono (by simp))⟩

set_option maxHeartbeats 1000000 in
theorem rright_2 (y m d h mi s wk : Int) (w : World) (y1 : 1970 ≤ y) (y2 : y ≤ 2099) (no : decide (1 ≤ d) = false) :
    Calls Tryz.prog 93 #[.agg #[.int .i64 y, .int .i64 m, .int .i64 d, .int .i64 h, .int .i64 mi, .int .i64 s, .int .i64 wk]] w fun e w' => e = .returned (.bool false) ∧ Below w.heap.size w w' := by
  have hn := ext_some (w.alloc (.cells #[.int .i64 y, .int .i64 m, .int .i64 d, .int .i64 h, .int .i64 mi, .int .i64 s, .int .i64 wk] 81))
  have hc := ext_cell (w.alloc (.cells #[.int .i64 y, .int .i64 m, .int .i64 d, .int .i64 h, .int .i64 mi, .int .i64 s, .int .i64 wk] 81))
  go_enter Tryz.func93, Tryz.ntmps93
  go_wp2
  refine wp_region_ext (by kernel_rfl) (by kernel_rfl) ?_
  repeat (go_big_quiet_step ((go_at_call 76; exact ext_call (rdays_any _ _ _))))
  refine wpQuiet_nil ?_
  rintro _ ⟨⟨w1, hb1⟩, rfl⟩
  go_wp2
  go_ret
  exact ⟨rfl, ((Below.refl _ _).alloc (Nat.le_refl _) _).trans (hb1.mono (by simp))⟩

set_option maxHeartbeats 1000000 in
theorem rright_3 (y m d h mi s wk : Int) (w : World) (y1 : 1970 ≤ y) (y2 : y ≤ 2099) (d1 : 1 ≤ d) (no : decide (d ≤ Cal.dim y m) = false) :
    Calls Tryz.prog 93 #[.agg #[.int .i64 y, .int .i64 m, .int .i64 d, .int .i64 h, .int .i64 mi, .int .i64 s, .int .i64 wk]] w fun e w' => e = .returned (.bool false) ∧ Below w.heap.size w w' := by
  have hn := ext_some (w.alloc (.cells #[.int .i64 y, .int .i64 m, .int .i64 d, .int .i64 h, .int .i64 mi, .int .i64 s, .int .i64 wk] 81))
  have hc := ext_cell (w.alloc (.cells #[.int .i64 y, .int .i64 m, .int .i64 d, .int .i64 h, .int .i64 mi, .int .i64 s, .int .i64 wk] 81))
  go_enter Tryz.func93, Tryz.ntmps93
  go_wp2
  refine wp_region_ext (by kernel_rfl) (by kernel_rfl) ?_
  repeat (go_big_quiet_step ((go_at_call 76; exact ext_call (rdays_any _ _ _))))
  refine wpQuiet_nil ?_
  rintro _ ⟨⟨w1, hb1⟩, rfl⟩
  go_wp2
  go_ret
  exact ⟨rfl, ((Below.refl _ _).alloc (Nat.le_refl _) _).trans (hb1.mono (by simp))⟩

set_option maxHeartbeats 1000000 in
theorem rright_4 (y m d h mi s wk : Int) (w : World) (y1 : 1970 ≤ y) (y2 : y ≤ 2099) (d1 : 1 ≤ d) (d2 : d ≤ Cal.dim y m) (no : decide (0 ≤ h) = false) :
    Calls Tryz.prog 93 #[.agg #[.int .i64 y, .int .i64 m, .int .i64 d, .int .i64 h, .int .i64 mi, .int .i64 s, .int .i64 wk]] w fun e w' => e = .returned (.bool false) ∧ Below w.heap.size w w' := by
  have hn := ext_some (w.alloc (.cells #[.int .i64 y, .int .i64 m, .int .i64 d, .int .i64 h, .int .i64 mi, .int .i64 s, .int .i64 wk] 81))
  have hc := ext_cell (w.alloc (.cells #[.int .i64 y, .int .i64 m, .int .i64 d, .int .i64 h, .int .i64 mi, .int .i64 s, .int .i64 wk] 81))
  go_enter Tryz.func93, Tryz.ntmps93
  go_wp2
  refine wp_region_ext (by kernel_rfl) (by kernel_rfl) ?_
  repeat (go_big_quiet_step ((go_at_call 76; exact ext_call (rdays_any _ _ _))))
  refine wpQuiet_nil ?_
  rintro _ ⟨⟨w1, hb1⟩, rfl⟩
  go_wp2
  go_ret
  exact ⟨rfl, ((Below.refl _ _).alloc (Nat.le_refl _) _).trans (hb1.mono (by simp))⟩

set_option maxHeartbeats 1000000 in
theorem rright_5 (y m d h mi s wk : Int) (w : World) (y1 : 1970 ≤ y) (y2 : y ≤ 2099) (d1 : 1 ≤ d) (d2 : d ≤ Cal.dim y m) (a1 : 0 ≤ h) (no : decide (h ≤ 23) = false) :
    Calls Tryz.prog 93 #[.agg #[.int .i64 y, .int .i64 m, .int .i64 d, .int .i64 h, .int .i64 mi, .int .i64 s, .int .i64 wk]] w fun e w' => e = .returned (.bool false) ∧ Below w.heap.size w w' := by
  have hn := ext_some (w.alloc (.cells #[.int .i64 y, .int .i64 m, .int .i64 d, .int .i64 h, .int .i64 mi, .int .i64 s, .int .i64 wk] 81))
  have hc := ext_cell (w.alloc (.cells #[.int .i64 y, .int .i64 m, .int .i64 d, .int .i64 h, .int .i64 mi, .int .i64 s, .int .i64 wk] 81))
  go_enter Tryz.func93, Tryz.ntmps93
  go_wp2
  refine wp_region_ext (by kernel_rfl) (by kernel_rfl) ?_
  repeat (go_big_quiet_step ((go_at_call 76; exact ext_call (rdays_any _ _ _))))
  refine wpQuiet_nil ?_
  rintro _ ⟨⟨w1, hb1⟩, rfl⟩
  go_wp2
  go_ret
  exact ⟨rfl, ((Below.refl _ _).alloc (Nat.le_refl _) _).trans (hb1.mono (by simp))⟩

set_option maxHeartbeats 1000000 in
theorem rright_6 (y m d h mi s wk : Int) (w : World) (y1 : 1970 ≤ y) (y2 : y ≤ 2099) (d1 : 1 ≤ d) (d2 : d ≤ Cal.dim y m) (a1 : 0 ≤ h) (a2 : h ≤ 23) (no : decide (0 ≤ mi) = false) :
    Calls Tryz.prog 93 #[.agg #[.int .i64 y, .int .i64 m, .int .i64 d, .int .i64 h, .int .i64 mi, .int .i64 s, .int .i64 wk]] w fun e w' => e = .returned (.bool false) ∧ Below w.heap.size w w' := by
  have hn := ext_some (w.alloc (.cells #[.int .i64 y, .int .i64 m, .int .i64 d, .int .i64 h, .int .i64 mi, .int .i64 s, .int .i64 wk] 81))
  have hc := ext_cell (w.alloc (.cells #[.int .i64 y, .int .i64 m, .int .i64 d, .int .i64 h, .int .i64 mi, .int .i64 s, .int .i64 wk] 81))
  go_enter Tryz.func93, Tryz.ntmps93
  go_wp2
  refine wp_region_ext (by kernel_rfl) (by kernel_rfl) ?_
  repeat (go_big_quiet_step ((go_at_call 76; exact ext_call (rdays_any _ _ _))))
  refine wpQuiet_nil ?_
  rintro _ ⟨⟨w1, hb1⟩, rfl⟩
  go_wp2
  go_ret
  exact ⟨rfl, ((Below.refl _ _).alloc (Nat.le_refl _) _).trans (hb1.mono (by simp))⟩

set_option maxHeartbeats 1000000 in
theorem rright_7 (y m d h mi s wk : Int) (w : World) (y1 : 1970 ≤ y) (y2 : y ≤ 2099) (d1 : 1 ≤ d) (d2 : d ≤ Cal.dim y m) (a1 : 0 ≤ h) (a2 : h ≤ 23) (b1 : 0 ≤ mi) (no : decide (mi ≤ 59) = false) :
    Calls Tryz.prog 93 #[.agg #[.int .i64 y, .int .i64 m, .int .i64 d, .int .i64 h, .int .i64 mi, .int .i64 s, .int .i64 wk]] w fun e w' => e = .returned (.bool false) ∧ Below w.heap.size w w' := by
  have hn := ext_some (w.alloc (.cells #[.int .i64 y, .int .i64 m, .int .i64 d, .int .i64 h, .int .i64 mi, .int .i64 s, .int .i64 wk] 81))
  have hc := ext_cell (w.alloc (.cells #[.int .i64 y, .int .i64 m, .int .i64 d, .int .i64 h, .int .i64 mi, .int .i64 s, .int .i64 wk] 81))
  go_enter Tryz.func93, Tryz.ntmps93
  go_wp2
  refine wp_region_ext (by kernel_rfl) (by kernel_rfl) ?_
  repeat (go_big_quiet_step ((go_at_call 76; exact ext_call (rdays_any _ _ _))))
  refine wpQuiet_nil ?_
  rintro _ ⟨⟨w1, hb1⟩, rfl⟩
  go_wp2
  go_ret
  exact ⟨rfl, ((Below.refl _ _).alloc (Nat.le_refl _) _).trans (hb1.mono (by simp))⟩

set_option maxHeartbeats 1000000 in
theorem rright_8 (y m d h mi s wk : Int) (w : World) (y1 : 1970 ≤ y) (y2 : y ≤ 2099) (d1 : 1 ≤ d) (d2 : d ≤ Cal.dim y m) (a1 : 0 ≤ h) (a2 : h ≤ 23) (b1 : 0 ≤ mi) (b2 : mi ≤ 59) (no : decide (0 ≤ s) = false) :
    Calls Tryz.prog 93 #[.agg #[.int .i64 y, .int .i64 m, .int .i64 d, .int .i64 h, .int .i64 mi, .int .i64 s, .int .i64 wk]] w fun e w' => e = .returned (.bool false) ∧ Below w.heap.size w w' := by
  have hn := ext_some (w.alloc (.cells #[.int .i64 y, .int .i64 m, .int .i64 d, .int .i64 h, .int .i64 mi, .int .i64 s, .int .i64 wk] 81))
  have hc := ext_cell (w.alloc (.cells #[.int .i64 y, .int .i64 m, .int .i64 d, .int .i64 h, .int .i64 mi, .int .i64 s, .int .i64 wk] 81))
  go_enter Tryz.func93, Tryz.ntmps93
  go_wp2
  refine wp_region_ext (by kernel_rfl) (by kernel_rfl) ?_
  repeat (go_big_quiet_step ((go_at_call 76; exact ext_call (rdays_any _ _ _))))
  refine wpQuiet_nil ?_
  rintro _ ⟨⟨w1, hb1⟩, rfl⟩
  go_wp2
  go_ret
  exact ⟨rfl, ((Below.refl _ _).alloc (Nat.le_refl _) _).trans (hb1.mono (by simp))⟩

set_option maxHeartbeats 1000000 in
theorem rright_9 (y m d h mi s wk : Int) (w : World) (y1 : 1970 ≤ y) (y2 : y ≤ 2099) (d1 : 1 ≤ d) (d2 : d ≤ Cal.dim y m) (a1 : 0 ≤ h) (a2 : h ≤ 23) (b1 : 0 ≤ mi) (b2 : mi ≤ 59) (c1 : 0 ≤ s) (no : decide (s ≤ 59) = false) :
    Calls Tryz.prog 93 #[.agg #[.int .i64 y, .int .i64 m, .int .i64 d, .int .i64 h, .int .i64 mi, .int .i64 s, .int .i64 wk]] w fun e w' => e = .returned (.bool false) ∧ Below w.heap.size w w' := by
  have hn := ext_some (w.alloc (.cells #[.int .i64 y, .int .i64 m, .int .i64 d, .int .i64 h, .int .i64 mi, .int .i64 s, .int .i64 wk] 81))
  have hc := ext_cell (w.alloc (.cells #[.int .i64 y, .int .i64 m, .int .i64 d, .int .i64 h, .int .i64 mi, .int .i64 s, .int .i64 wk] 81))
  go_enter Tryz.func93, Tryz.ntmps93
  go_wp2
  refine wp_region_ext (by kernel_rfl) (by kernel_rfl) ?_
  repeat (go_big_quiet_step ((go_at_call 76; exact ext_call (rdays_any _ _ _))))
  refine wpQuiet_nil ?_
  rintro _ ⟨⟨w1, hb1⟩, rfl⟩
  go_wp2
  go_ret
  exact ⟨rfl, ((Below.refl _ _).alloc (Nat.le_refl _) _).trans (hb1.mono (by simp))⟩

set_option maxHeartbeats 1000000 in
theorem rright_10 (y m d h mi s wk : Int) (w : World) (y1 : 1970 ≤ y) (y2 : y ≤ 2099) (d1 : 1 ≤ d) (d2 : d ≤ Cal.dim y m) (a1 : 0 ≤ h) (a2 : h ≤ 23) (b1 : 0 ≤ mi) (b2 : mi ≤ 59) (c1 : 0 ≤ s) (c2 : s ≤ 59) :
    Calls Tryz.prog 93 #[.agg #[.int .i64 y, .int .i64 m, .int .i64 d, .int .i64 h, .int .i64 mi, .int .i64 s, .int .i64 wk]] w fun e w' => e = .returned (.bool true) ∧ Below w.heap.size w w' := by
  have hn := ext_some (w.alloc (.cells #[.int .i64 y, .int .i64 m, .int .i64 d, .int .i64 h, .int .i64 mi, .int .i64 s, .int .i64 wk] 81))
  have hc := ext_cell (w.alloc (.cells #[.int .i64 y, .int .i64 m, .int .i64 d, .int .i64 h, .int .i64 mi, .int .i64 s, .int .i64 wk] 81))
  go_enter Tryz.func93, Tryz.ntmps93
  go_wp2
  refine wp_region_ext (by kernel_rfl) (by kernel_rfl) ?_
  repeat (go_big_quiet_step ((go_at_call 76; exact ext_call (rdays_any _ _ _))))
  refine wpQuiet_nil ?_
  rintro _ ⟨⟨w1, hb1⟩, rfl⟩
  go_wp2
  go_ret
  exact ⟨rfl, ((Below.refl _ _).alloc (Nat.le_refl _) _).trans (hb1.mono (by simp))⟩

theorem rright_any (y m d h mi s wk : Int) (w : World) :
    Calls Tryz.prog 93 #[.agg #[.int .i64 y, .int .i64 m, .int .i64 d, .int .i64 h, .int .i64 mi, .int .i64 s, .int .i64 wk]] w fun e w' => e = .returned (.bool (rightB y m d h mi s)) ∧ Below w.heap.size w w' := by
  by_cases y1 : 1970 ≤ y
  rotate_left
  · rw [show rightB y m d h mi s = false from right_no (by omega)]
    exact rright_0 y m d h mi s wk w  (decide_eq_false y1)
  by_cases y2 : y ≤ 2099
  rotate_left
  · rw [show rightB y m d h mi s = false from right_no (by omega)]
    exact rright_1 y m d h mi s wk w y1 (decide_eq_false y2)
  by_cases d1 : 1 ≤ d
  rotate_left
  · rw [show rightB y m d h mi s = false from right_no (by omega)]
    exact rright_2 y m d h mi s wk w y1 y2 (decide_eq_false d1)
  by_cases d2 : d ≤ Cal.dim y m
  rotate_left
  · rw [show rightB y m d h mi s = false from right_no (by omega)]
    exact rright_3 y m d h mi s wk w y1 y2 d1 (decide_eq_false d2)
  by_cases a1 : 0 ≤ h
  rotate_left
  · rw [show rightB y m d h mi s = false from right_no (by omega)]
    exact rright_4 y m d h mi s wk w y1 y2 d1 d2 (decide_eq_false a1)
  by_cases a2 : h ≤ 23
  rotate_left
  · rw [show rightB y m d h mi s = false from right_no (by omega)]
    exact rright_5 y m d h mi s wk w y1 y2 d1 d2 a1 (decide_eq_false a2)
  by_cases b1 : 0 ≤ mi
  rotate_left
  · rw [show rightB y m d h mi s = false from right_no (by omega)]
    exact rright_6 y m d h mi s wk w y1 y2 d1 d2 a1 a2 (decide_eq_false b1)
  by_cases b2 : mi ≤ 59
  rotate_left
  · rw [show rightB y m d h mi s = false from right_no (by omega)]
    exact rright_7 y m d h mi s wk w y1 y2 d1 d2 a1 a2 b1 (decide_eq_false b2)
  by_cases c1 : 0 ≤ s
  rotate_left
  · rw [show rightB y m d h mi s = false from right_no (by omega)]
    exact rright_8 y m d h mi s wk w y1 y2 d1 d2 a1 a2 b1 b2 (decide_eq_false c1)
  by_cases c2 : s ≤ 59
  rotate_left
  · rw [show rightB y m d h mi s = false from right_no (by omega)]
    exact rright_9 y m d h mi s wk w y1 y2 d1 d2 a1 a2 b1 b2 c1 (decide_eq_false c2)
  · rw [show rightB y m d h mi s = true from right_yes (by omega) (by omega) (right_month d1 d2).1 (right_month d1 d2).2 (by omega) (by omega) (by omega) (by omega) (by omega) (by omega) (by omega) (by omega)]
    exact rright_10 y m d h mi s wk w y1 y2 d1 d2 a1 a2 b1 b2 c1 c2
end Go.Proofs.YtcmhaihoeecjoaaGreatDoor.Da

end
section
namespace Go.Proofs.YtcmhaihoeecjoaaGreatDoor.Da
open Go.RowKit

set_option maxHeartbeats 1000000 in
theorem before_any (y : Int) (w : World) (h0 : 1970 ≤ y) (h1 : y ≤ 2100) :
    Calls Tryz.prog 75 #[.int .i64 y] w fun e w' => e = .returned (.int .i64 (Cal.dby y)) ∧ w' = w := by
  go_enter Tryz.func75, Tryz.ntmps75
  go_wp2
  go_loop [3, 4] (fun n k => ∃ z : Int, 1970 ≤ z ∧ z ≤ y ∧ k = .int .i64 z ∧ n = .int .i64 (Cal.dby z)) (fun _ k => (y - intOf k).toNat)
  case atStart => exact ⟨1970, by omega, h0, rfl, by rw [Cal.dby_0]⟩
  case round =>
    obtain ⟨z, hz1, hz2, rfl, rfl⟩ := hrel
    have hb := Cal.dby_bd z hz1 (by omega)
    by_cases hlt : z < y
    · have HS : Hid (Cal.dby (z + 1) = Cal.dby z + 365 + Cal.lp z) := Cal.dby_succ z
      cases h : Cal.leapB z
      · have HL : Hid (Cal.lp z = 0) := Cal.leapB_false h
        go_wp2_with (go_at_call 101; refine (rleap_any _ _).mono ?_; rintro e w' ⟨rfl, rfl⟩)
        go_round
        case rel => exact ⟨z + 1, by omega, by omega, rfl, by rw [HS.out, HL.out]; go_num⟩
        case measure => simp [intOf]; omega
      · have HL : Hid (Cal.lp z = 1) := Cal.leapB_true h
        go_wp2_with (go_at_call 101; refine (rleap_any _ _).mono ?_; rintro e w' ⟨rfl, rfl⟩)
        go_round
        case rel => exact ⟨z + 1, by omega, by omega, rfl, by rw [HS.out, HL.out]⟩
        case measure => simp [intOf]; omega
    · obtain rfl : z = y := by omega
      go_wp2
      go_ret
      exact ⟨rfl, rfl⟩

def zero7 : Array Value := #[.int .i64 0, .int .i64 0, .int .i64 0, .int .i64 0, .int .i64 0, .int .i64 0, .int .i64 0]

set_option maxHeartbeats 2000000 in
theorem rcivil_yes (t : Int) (w : World) (h0 : 0 ≤ t) (h1 : t ≤ 4102444799) :
    Calls Tryz.prog 43 #[.int .i64 t] w fun e w' => e = .returned (.tuple #[.agg #[.int .i64 (Cal.cy (t / 86400)), .int .i64 (Cal.cm (t / 86400)), .int .i64 (Cal.cd (t / 86400)),
      .int .i64 (t % 86400 / 3600), .int .i64 (t % 3600 / 60), .int .i64 (t % 60), .int .i64 ((4 + t / 86400) % 7)], .bool true]) ∧ Below w.heap.size w w' := by
  obtain ⟨d, hd⟩ : ∃ d, d = t / 86400 := ⟨_, rfl⟩
  have hd0 : 0 ≤ d := by omega
  have hd1 : d ≤ 47481 := by omega
  have HD : Hid (d = t / 86400) := hd
  go_enter Tryz.func43, Tryz.ntmps43
  go_wp2_with fail
  rw [← HD.out]
  clear hd
  go_loopw [21] (fun _ wr => ∃ y : Int, 1970 ≤ y ∧ y ≤ 2099 ∧ Cal.dby y ≤ d ∧
      wr = (w.alloc (.cells #[.int .i64 0, .int .i64 0, .int .i64 0, .int .i64 0, .int .i64 0, .int .i64 0, .int .i64 0] 81)).alloc (.cells #[.int .i64 y, .int .i64 1, .int .i64 0, .int .i64 0, .int .i64 0, .int .i64 0, .int .i64 ((d + 4) % 7)] 81))
    (fun _ wr => (2100 - intOf ((wr.cell? ⟨w.heap.size + 1, 0, none⟩).getD undef)).toNat)
  case atStart => exact ⟨1970, by omega, by omega, by rw [Cal.dby_0]; omega, rfl⟩
  case round =>
    obtain ⟨y, hy1, hy2, hy3, rfl⟩ := hrel
    have hb := Cal.dby_bd (y + 1) (by omega) (by omega)
    by_cases hc : Cal.dby (y + 1) ≤ d
    · have hy4 : y ≤ 2098 := by
        rcases Int.lt_or_le y 2099 with h | h
        · omega
        · obtain rfl : y = 2099 := by omega
          have := Cal.dby_last
          rw [show (2099 : Int) + 1 = 2100 from rfl] at hc
          omega
      go_wp2_with (go_at_call 75; refine (before_any _ _ (by omega) (by omega)).mono ?_; rintro e w' ⟨rfl, rfl⟩)
      go_roundw
      case rel => exact ⟨y + 1, by omega, by omega, hc, rfl⟩
      case measure => simp [intOf]; omega
    · have hlt : d < Cal.dby (y + 1) := by omega
      have hb0 := Cal.dby_bd y hy1 (by omega)
      go_wp2_with (go_at_call 75; refine (before_any _ _ (by omega) (by omega)).mono ?_; rintro e w' ⟨rfl, rfl⟩)
      have hl := Cal.lp_01 y
      have HS : Hid (Cal.dby (y + 1) = Cal.dby y + 365 + Cal.lp y) := Cal.dby_succ y
      go_loopw [4] (fun s wr => ∃ m : Int, 1 ≤ m ∧ m ≤ 12 ∧ Cal.cum y m ≤ d - Cal.dby y ∧ s = .int .i64 (d - Cal.dby y - Cal.cum y m) ∧ Hid (Below w.heap.size w wr) ∧
          Hid (Blk wr w.heap.size #[.int .i64 0, .int .i64 0, .int .i64 0, .int .i64 0, .int .i64 0, .int .i64 0, .int .i64 0] 81) ∧
          Hid (Blk wr (w.heap.size + 1) #[.int .i64 y, .int .i64 m, .int .i64 0, .int .i64 0, .int .i64 0, .int .i64 0, .int .i64 ((d + 4) % 7)] 81))
        (fun s _ => (intOf s).toNat)
      case atStart =>
        refine ⟨1, by omega, by omega, by simp [Cal.cum]; omega, by simp [Cal.cum], ?_, ?_, ?_⟩
        · exact ((Below.refl _ _).alloc (Nat.le_refl _) _).alloc (by simp) _
        · exact (Blk.new _ _ _).alloc _
        · exact Blk.new1 _ _ _ _
      case round =>
        obtain ⟨m, hm1, hm2, hm3, rfl, HB, HR, HC⟩ := hrel
        have cb := Cal.cum_range y m hm1 (by omega)
        have db := Cal.dim_range y m
        have dp := Cal.dim_pos y m hm1 hm2
        have cs := Cal.cum_succ y m hm1 hm2
        have CS : Hid (Cal.cum y (m + 1) = Cal.cum y m + Cal.dim y m) := cs
        have hcC := HC.out.cell
        have hfC := HC.out.frozen
        have hlC := HC.out.lt
        by_cases hd : Cal.dim y m ≤ d - Cal.dby y - Cal.cum y m
        · have hm4 : m ≤ 11 := by
            rcases Int.lt_or_le m 12 with h | h
            · omega
            · obtain rfl : m = 12 := by omega
              have h13 : Cal.cum y (12 + 1) = 365 + Cal.lp y := by simp [Cal.cum]
              have := HS.out
              omega
          clear cs
          go_wp2_with fail
          refine (rdays_any _ _ _).mono ?_
          rintro e w1 ⟨rfl, hb1⟩
          have HC1 : Hid (Blk w1 (w.heap.size + 1) _ 81) := HC.out.below hb1 hlC
          have hcC1 := HC1.out.cell
          have hfC1 := HC1.out.frozen
          have hlC1 := HC1.out.lt
          go_wp2_with fail
          refine (rdays_any _ _ _).mono ?_
          rintro e w2 ⟨rfl, hb2⟩
          have HC2 : Hid (Blk w2 (w.heap.size + 1) _ 81) := HC1.out.below hb2 hlC1
          have hcC2 := HC2.out.cell
          have hfC2 := HC2.out.frozen
          go_wp2
          go_roundw
          case rel =>
            refine ⟨m + 1, by omega, by omega, by rw [CS.out]; omega, by rw [CS.out]; go_num, ?_, ?_, ?_⟩
            · exact (((HB.out.trans (hb1.mono HB.out.size)).trans (hb2.mono (Nat.le_trans HB.out.size hb1.size)))).setCell (by simp) _
            · exact ((HR.out.below hb1 HR.out.lt).below hb2 (HR.out.below hb1 HR.out.lt).lt).set_other _ _ (by simp)
            · exact HC2.out.set 1 _
          case measure => simp [intOf]; omega
        · have hv : d - Cal.dby y < Cal.cum y m + Cal.dim y m := by omega
          have HE : Hid (y = Cal.cy d ∧ m = Cal.cm d ∧ d - Cal.dby y - Cal.cum y m + 1 = Cal.cd d) := Cal.date_of d y m hd0 hd1 hy3 hlt hm1 hm2 hm3 hv
          clear cs
          go_wp2_with fail
          refine (rdays_any _ _ _).mono ?_
          rintro e w1 ⟨rfl, hb1⟩
          have HC1 : Hid (Blk w1 (w.heap.size + 1) _ 81) := HC.out.below hb1 hlC
          have HR1 : Hid (Blk w1 w.heap.size _ 81) := HR.out.below hb1 HR.out.lt
          have hcC1 := HC1.out.cell
          have hfC1 := HC1.out.frozen
          have hcR1 := HR1.out.cell
          have hfR1 := HR1.out.frozen
          go_wp2
          have e0 : (d + 4) % 7 = (4 + d) % 7 := by omega
          refine bodyPost_ret (v := .tuple #[.agg #[.int .i64 y, .int .i64 m, .int .i64 (d - Cal.dby y - Cal.cum y m + 1), .int .i64 (t % 86400 / 3600), .int .i64 (t % 3600 / 60), .int .i64 (t % 60), .int .i64 ((d + 4) % 7)], .bool true])
            (by simp [results, Tryz.results43, go_sem, hcR1]) rfl ⟨by rw [← HD.out, ← HE.out.1, ← HE.out.2.1, ← HE.out.2.2, e0], ?_⟩
          have hB := HB.out.trans (hb1.mono HB.out.size)
          repeat (refine Below.setCell ?_ (by simp) _)
          exact hB
end Go.Proofs.YtcmhaihoeecjoaaGreatDoor.Da

end
