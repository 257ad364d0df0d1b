/- The document's moments and dates: before, Civil. -/
import Derived.Test.YtabncmepkoiheaaDoorRDays
import Derived.Test.YtabncmepkoiheaaDoorMem
import Derived.RegionTactic
import Derived.ChangeAlike
namespace Go.Proofs.YtabncmepkoiheaaDoor
open Go.RowKit

set_option maxHeartbeats 1000000 in
theorem before_any (y : Int) (w : World) (h0 : 1970 ≤ y) (h1 : y ≤ 2100) :
    Calls Tryd.prog 61 #[.int .i64 y] w fun e w' => e = .returned (.int .i64 (Cal.dby y)) ∧ w' = w := by
  go_enter Tryd.func61, Tryd.ntmps61
  go_wp2
  go_loop [3, 4] (fun n k => ∃ z : Int, 1970 ≤ z ∧ z ≤ y ∧ k = .int .i64 z ∧ n = .int .i64 (Cal.dby z)) (fun _ k => (y - intOf k).toNat)
  case atStart => exact ⟨1970, by omega, h0, rfl, by rw [Cal.dby_0]⟩
  case round =>
    obtain ⟨z, hz1, hz2, rfl, rfl⟩ := hrel
    have hb := Cal.dby_bd z hz1 (by omega)
    by_cases hlt : z < y
    · have HS : Hid (Cal.dby (z + 1) = Cal.dby z + 365 + Cal.lp z) := Cal.dby_succ z
      cases h : Cal.leapB z
      · have HL : Hid (Cal.lp z = 0) := Cal.leapB_false h
        go_wp2_with (go_at_call 66; refine (rleap_any _ _).mono ?_; rintro e w' ⟨rfl, rfl⟩)
        go_round
        case rel => exact ⟨z + 1, by omega, by omega, rfl, by rw [HS.out, HL.out]; go_num⟩
        case measure => simp [intOf]; omega
      · have HL : Hid (Cal.lp z = 1) := Cal.leapB_true h
        go_wp2_with (go_at_call 66; refine (rleap_any _ _).mono ?_; rintro e w' ⟨rfl, rfl⟩)
        go_round
        case rel => exact ⟨z + 1, by omega, by omega, rfl, by rw [HS.out, HL.out]⟩
        case measure => simp [intOf]; omega
    · obtain rfl : z = y := by omega
      go_wp2
      go_ret
      exact ⟨rfl, rfl⟩

end Go.Proofs.YtabncmepkoiheaaDoor
