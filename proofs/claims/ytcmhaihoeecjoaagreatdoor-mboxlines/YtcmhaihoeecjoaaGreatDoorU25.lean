/- Moments of dates, by the program. -/
/- The document's days of a month. -/
import Derived.Test.YtcmhaihoeecjoaaGreatDoorU24
import Derived.Test.YtcmhaihoeecjoaaGreatDoorU11
import Derived.Test.YtcmhaihoeecjoaaGreatDoorU14
section
namespace Go.Proofs.YtcmhaihoeecjoaaGreatDoor.Da
open Go.RowKit

set_option maxHeartbeats 1000000 in
theorem daysBefore_any (y m d h mi s wk : Int) (w : World) (y1 : 1970 ≤ y) (y2 : y ≤ 2099) (m1 : 1 ≤ m) (m2 : m ≤ 12) (d1 : 1 ≤ d) (d2 : d ≤ 31) :
    Calls Tryz.prog 135 #[.agg #[.int .i64 y, .int .i64 m, .int .i64 d, .int .i64 h, .int .i64 mi, .int .i64 s, .int .i64 wk]] w fun e w' => e = .returned (.int .i64 (Cal.dby y + Cal.cum y m + d - 1)) ∧ Below w.heap.size w w' := by
  go_enter Tryz.func135, Tryz.ntmps135
  go_wp2
  go_loop [3, 4] (fun n k => ∃ z : Int, 1970 ≤ z ∧ z ≤ y ∧ k = .int .i64 z ∧ n = .int .i64 (d - 1 + Cal.dby z)) (fun _ k => (y - intOf k).toNat)
  case atStart => exact ⟨1970, by omega, y1, rfl, by rw [Cal.dby_0]; go_num⟩
  case round =>
    obtain ⟨z, hz1, hz2, rfl, rfl⟩ := hrel
    have hb := Cal.dby_bd z hz1 (by omega)
    by_cases hlt : z < y
    · have HS : Hid (Cal.dby (z + 1) = Cal.dby z + 365 + Cal.lp z) := Cal.dby_succ z
      have hl := Cal.lp_01 z
      go_wp2_with (go_at_call 130; refine (yd_any _ _).mono ?_; rintro e w' ⟨rfl, rfl⟩)
      go_round
      case rel => exact ⟨z + 1, by omega, by omega, rfl, by rw [HS.out]; go_num⟩
      case measure => simp [intOf]; omega
    · obtain rfl : z = y := by omega
      go_wp2
      go_loop [3, 5] (fun n k => ∃ j : Int, 1 ≤ j ∧ j ≤ m ∧ k = .int .i64 j ∧ n = .int .i64 (d - 1 + Cal.dby z + Cal.cum z j)) (fun _ k => (m - intOf k).toNat)
      case atStart => exact ⟨1, by omega, m1, rfl, by simp [Cal.cum]⟩
      case round =>
        obtain ⟨j, hj1, hj2, rfl, rfl⟩ := hrel
        have cb := Cal.cum_range z j hj1 (by omega)
        have db := Cal.dim_range z j
        by_cases hlt2 : j < m
        · have CS : Hid (Cal.cum z (j + 1) = Cal.cum z j + Cal.dim z j) := Cal.cum_succ z j hj1 (by omega)
          go_wp2_with (go_at_call 131; refine (days_any _ _ _).mono ?_; rintro e w' ⟨rfl, rfl⟩)
          go_round
          case rel => exact ⟨j + 1, by omega, by omega, rfl, by rw [CS.out]; go_num⟩
          case measure => simp [intOf]; omega
        · obtain rfl : j = m := by omega
          go_wp2
          go_ret
          exact ⟨ret_int (by omega), (Below.refl _ _).alloc (Nat.le_refl _) _⟩

/-- The moment of a date. -/
def mom (y m d h mi s : Int) : Int := (Cal.dby y + Cal.cum y m + d - 1) * 86400 + h * 3600 + mi * 60 + s

set_option maxHeartbeats 1000000 in
theorem moment_yes (y m d h mi s wk : Int) (w : World) (hr : rightB y m d h mi s = true) :
    Calls Tryz.prog 124 #[.agg #[.int .i64 y, .int .i64 m, .int .i64 d, .int .i64 h, .int .i64 mi, .int .i64 s, .int .i64 wk]] w fun e w' => e = .returned (.tuple #[.int .i64 (mom y m d h mi s), .nilIface]) ∧ Below w.heap.size w w' := by
  obtain ⟨y1, y2, m1, m2, d1, d2, a1, a2, b1, b2, c1, c2⟩ := right_spec hr
  have dr := Cal.dim_range y m
  have db := Cal.dby_bd y y1 (by omega)
  have cb := Cal.cum_range y m m1 (by omega)
  go_enter Tryz.func124, Tryz.ntmps124
  go_wp2_with (go_at_call 134; refine (right_any _ _ _ _ _ _ _ _).mono ?_; rintro e w1 ⟨rfl, hb1⟩)
  have hk := (Blk.new w #[.int .i64 y, .int .i64 m, .int .i64 d, .int .i64 h, .int .i64 mi, .int .i64 s, .int .i64 wk] 81).below hb1 (by simp)
  have hk0 := hk.cell
  have hz := hk.lt
  have hn := ext_some w1
  have hc := ext_cell w1
  refine wp_region_ext (by kernel_rfl) (by kernel_rfl) ?_
  repeat (go_big_quiet_step ((go_at_call 135; exact ext_call (daysBefore_any _ _ _ _ _ _ _ _ (by omega) (by omega) (by omega) (by omega) (by omega) (by omega)))))
  refine wpQuiet_nil ?_
  rintro _ ⟨⟨w2, hb2⟩, rfl⟩
  go_wp2
  go_ret2
  refine ⟨rfl, ?_⟩
  exact (((Below.refl _ _).alloc (Nat.le_refl _) _).trans (hb1.mono (by simp))).trans (hb2.mono (by have := hb1.size; simp at this; omega))
end Go.Proofs.YtcmhaihoeecjoaaGreatDoor.Da

end
section
namespace Go.Proofs.YtcmhaihoeecjoaaGreatDoor.Da
open Go.RowKit

set_option maxHeartbeats 1000000 in
theorem rdays_any (y m : Int) (w : World) :
    Calls Tryz.prog 76 #[.int .i64 y, .int .i64 m] w fun e w' => e = .returned (.int .i64 (Cal.dim y m)) ∧ Below w.heap.size w w' := by
  by_cases hm : 1 ≤ m ∧ m ≤ 12
  · have h : m = 1 ∨ m = 2 ∨ m = 3 ∨ m = 4 ∨ m = 5 ∨ m = 6 ∨ m = 7 ∨ m = 8 ∨ m = 9 ∨ m = 10 ∨ m = 11 ∨ m = 12 := by omega
    clear hm
    rcases h with rfl | rfl | rfl | rfl | rfl | rfl | rfl | rfl | rfl | rfl | rfl | rfl
    case inr.inl =>
      cases h : Cal.leapB y
      · have HL : Hid (Cal.lp y = 0) := Cal.leapB_false h
        go_enter Tryz.func76, Tryz.ntmps76
        go_wp2_with (go_at_call 101; refine (rleap_any _ _).mono ?_; rintro e w' ⟨rfl, rfl⟩)
        go_ret
        exact ⟨ret_int (by simp [Cal.dim, HL.out]), (Below.refl _ _).alloc (Nat.le_refl _) _⟩
      · have HL : Hid (Cal.lp y = 1) := Cal.leapB_true h
        go_enter Tryz.func76, Tryz.ntmps76
        go_wp2_with (go_at_call 101; refine (rleap_any _ _).mono ?_; rintro e w' ⟨rfl, rfl⟩)
        go_ret
        exact ⟨ret_int (by simp [Cal.dim, HL.out]), (Below.refl _ _).alloc (Nat.le_refl _) _⟩
    all_goals
      go_enter Tryz.func76, Tryz.ntmps76
      go_wp2
      go_ret
      exact ⟨ret_int (by simp [Cal.dim]), (Below.refl _ _).alloc (Nat.le_refl _) _⟩
  · have hd : Cal.dim y m = 0 := by unfold Cal.dim; rw [if_neg (by omega), if_neg (by omega), if_neg hm]
    have HD : Hid (Cal.dim y m = 0) := hd
    clear hd
    by_cases h1 : m < 1
    all_goals
      go_enter Tryz.func76, Tryz.ntmps76
      go_wp2
      go_ret
      exact ⟨ret_int HD.out.symm, Below.refl _ _⟩
end Go.Proofs.YtcmhaihoeecjoaaGreatDoor.Da

end
