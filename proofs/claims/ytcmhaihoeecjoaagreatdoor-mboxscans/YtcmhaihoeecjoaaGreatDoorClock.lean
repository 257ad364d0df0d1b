/- The texts of a moment, by the program and by the document. -/
import Derived.Test.YtcmhaihoeecjoaaGreatDoorPieces
import Derived.Test.YtcmhaihoeecjoaaGreatDoorCalm
namespace Go.Proofs.YtcmhaihoeecjoaaGreatDoor.Da
open Go.RowKit

def clk (h mi s : Nat) : List UInt8 := two h 48 ++ [58] ++ two mi 48 ++ [58] ++ two s 48
theorem clk_len (h mi s : Nat) : ((clk h mi s).length : Int) ≤ 40 := by
  have := two_len h 48
  have := two_len mi 48
  have := two_len s 48
  unfold clk
  simp
  omega

set_option maxHeartbeats 1000000 in
theorem clock_any (y m d h mi s wk : Nat) (w : World) (h1 : h < 100) (h2 : mi < 100) (h3 : s < 100) :
    Calls Tryz.prog 68 #[.agg #[.int .i64 (y : Nat), .int .i64 (m : Nat), .int .i64 (d : Nat), .int .i64 (h : Nat), .int .i64 (mi : Nat), .int .i64 (s : Nat), .int .i64 (wk : Nat)]] w fun e w' => e = .returned (.string ⟨(clk h mi s).toArray⟩) ∧ Below w.heap.size w w' := by
  have hn := ext_some (w.alloc (.cells #[.int .i64 (y : Nat), .int .i64 (m : Nat), .int .i64 (d : Nat), .int .i64 (h : Nat), .int .i64 (mi : Nat), .int .i64 (s : Nat), .int .i64 (wk : Nat)] 81))
  have hc := ext_cell (w.alloc (.cells #[.int .i64 (y : Nat), .int .i64 (m : Nat), .int .i64 (d : Nat), .int .i64 (h : Nat), .int .i64 (mi : Nat), .int .i64 (s : Nat), .int .i64 (wk : Nat)] 81))
  have hcat := ByteArray.mk_append_mk
  have l1 := two_len h 48
  have l2 := two_len mi 48
  have l3 := two_len s 48
  go_enter Tryz.func68, Tryz.ntmps68
  go_wp2
  refine wp_region_ext (by kernel_rfl) (by kernel_rfl) ?_
  repeat (go_big_quiet_step ((go_at_call 67; exact ext_same (twoPlaces_zero _ (by omega) _))))
  refine wpQuiet_nil ?_
  rintro w1 ⟨⟨_, hb1⟩, rfl⟩
  go_wp2
  go_ret
  exact ⟨ret_str (by simp [clk]), ((Below.refl _ _).alloc (Nat.le_refl _) _).trans (hb1.mono (by simp))⟩
end Go.Proofs.YtcmhaihoeecjoaaGreatDoor.Da
