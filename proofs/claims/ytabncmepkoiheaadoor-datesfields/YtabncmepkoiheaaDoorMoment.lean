/- Moments of dates, by the program and by the document. -/
import Derived.Test.YtabncmepkoiheaaDoorPMoment
import Derived.Test.YtabncmepkoiheaaDoorRRight
import Derived.Test.YtabncmepkoiheaaDoorRCiv
import Derived.Test.YtabncmepkoiheaaDoorNum
import Derived.Test.YtabncmepkoiheaaDoorCalm
namespace Go.Proofs.YtabncmepkoiheaaDoor
open Go.RowKit

set_option maxHeartbeats 1000000 in
theorem moment_no (y m d h mi s wk : Int) (w : World) (a : Nat → Addr) (hE : Errs w a) (hr : rightB y m d h mi s = false) :
    Calls Tryd.prog 57 #[.agg #[.int .i64 y, .int .i64 m, .int .i64 d, .int .i64 h, .int .i64 mi, .int .i64 s, .int .i64 wk]] w fun e w' => e = .returned (.tuple #[.int .i64 0, .iface 79 (.pointer (some (a 0)))]) ∧ Below w.heap.size w w' := by
  have HE : Hid (Errs w a) := hE
  clear hE
  go_enter Tryd.func57, Tryd.ntmps57
  go_wp2_with (go_at_call 63; refine (right_any _ _ _ _ _ _ _ _).mono ?_; rintro e w1 ⟨rfl, hb1⟩)
  have hB1 : Below w.heap.size w w1 := ((Below.refl _ _).alloc (Nat.le_refl _) _).trans (hb1.mono (by simp))
  have c0 : w1.cell? ⟨0, 0, none⟩ = some (.iface 79 (.pointer (some (a 0)))) := (HE.out.below hB1).cell 0 (by decide)
  have l0 : 0 < w1.heap.size := (HE.out.below hB1).low 0 (by decide)
  have hn := ext_some w1
  have hc := ext_cell w1
  refine wp_region_ext (by kernel_rfl) (by kernel_rfl) ?_
  repeat (go_big_quiet_step (fail))
  refine wpQuiet_nil ?_
  rintro _ ⟨⟨w2, hb2⟩, rfl⟩
  go_wp2
  go_ret2
  exact ⟨rfl, hB1.trans (hb2.mono hB1.size)⟩

set_option maxHeartbeats 1000000 in
theorem rmoment_any (y m d h mi s wk : Int) (w : World) (hr : rightB y m d h mi s = true) :
    Calls Tryd.prog 50 #[.agg #[.int .i64 y, .int .i64 m, .int .i64 d, .int .i64 h, .int .i64 mi, .int .i64 s, .int .i64 wk]] w fun e w' => e = .returned (.int .i64 (mom y m d h mi s)) ∧ Below w.heap.size w w' := by
  obtain ⟨y1, y2, m1, m2, d1, d2, a1, a2, b1, b2, c1, c2⟩ := right_spec hr
  have dr := Cal.dim_range y m
  have db := Cal.dby_bd y y1 (by omega)
  clear hr
  have hn := ext_some (w.alloc (.cells #[.int .i64 y, .int .i64 m, .int .i64 d, .int .i64 h, .int .i64 mi, .int .i64 s, .int .i64 wk] 32))
  have hc := ext_cell (w.alloc (.cells #[.int .i64 y, .int .i64 m, .int .i64 d, .int .i64 h, .int .i64 mi, .int .i64 s, .int .i64 wk] 32))
  go_enter Tryd.func50, Tryd.ntmps50
  go_wp2
  refine wp_region_ext (by kernel_rfl) (by kernel_rfl) ?_
  repeat (go_big_quiet_step ((go_at_call 61; exact ext_same (before_any _ _ (by omega) (by omega)))))
  refine wpQuiet_nil ?_
  rintro w1 ⟨⟨_, hb1⟩, rfl⟩
  have HK1 : Hid (Blk w1 w.heap.size #[.int .i64 y, .int .i64 m, .int .i64 d, .int .i64 h, .int .i64 mi, .int .i64 s, .int .i64 wk] 32) := (Blk.new w #[.int .i64 y, .int .i64 m, .int .i64 d, .int .i64 h, .int .i64 mi, .int .i64 s, .int .i64 wk] 32).below hb1 (by simp)
  have HB1 : Hid (Below w.heap.size w w1) := ((Below.refl _ _).alloc (Nat.le_refl _) _).trans (hb1.mono (by simp))
  clear hn hc hb1
  go_wp2
  go_loopw [3, 4] (fun n k wr => ∃ j : Int, 1 ≤ j ∧ j ≤ m ∧ k = .int .i64 j ∧ n = .int .i64 (Cal.dby y + d - 1 + Cal.cum y j) ∧ Hid (Below w.heap.size w wr) ∧ Hid (Blk wr w.heap.size #[.int .i64 y, .int .i64 m, .int .i64 d, .int .i64 h, .int .i64 mi, .int .i64 s, .int .i64 wk] 32)) (fun _ k _ => (m - intOf k).toNat)
  case atStart => exact ⟨1, by omega, m1, rfl, by simp [Cal.cum], HB1, HK1⟩
  case round =>
    obtain ⟨j, hj1, hj2, rfl, rfl, HB, HK⟩ := hrel
    have hk0 := HK.out.cell
    have cb := Cal.cum_range y j hj1 (by omega)
    have db2 := Cal.dim_range y j
    by_cases hlt : j < m
    · have CS : Hid (Cal.cum y (j + 1) = Cal.cum y j + Cal.dim y j) := Cal.cum_succ y j hj1 (by omega)
      go_wp2_with (go_at_call 60; refine (rdays_any _ _ _).mono ?_; rintro e w2 ⟨rfl, hb2⟩)
      go_roundw
      case rel => exact ⟨j + 1, by omega, by omega, rfl, by rw [CS.out]; go_num, HB.out.trans (hb2.mono HB.out.size), HK.out.below hb2 HK.out.lt⟩
      case measure => simp [intOf]; omega
    · obtain rfl : j = m := by omega
      go_wp2
      go_ret
      exact ⟨ret_int (by unfold mom; omega), HB.out⟩
end Go.Proofs.YtabncmepkoiheaaDoor
