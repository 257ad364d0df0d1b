/- The texts of a moment, by the program and by the document. -/
/- The four texts of a date, by the program and by the document. -/
import Derived.Test.YtcmhaihoeecjoaaGreatDoorU11
section
namespace Go.Proofs.YtcmhaihoeecjoaaGreatDoor.Da
open Go.RowKit

def clk (h mi s : Nat) : List UInt8 := two h 48 ++ [58] ++ two mi 48 ++ [58] ++ two s 48
theorem clk_len (h mi s : Nat) : ((clk h mi s).length : Int) ≤ 40 := by
  have := two_len h 48
  have := two_len mi 48
  have := two_len s 48
  unfold clk
  simp
  omega

set_option maxHeartbeats 1000000 in
theorem clock_any (y m d h mi s wk : Nat) (w : World) (h1 : h < 100) (h2 : mi < 100) (h3 : s < 100) :
    Calls Tryz.prog 68 #[.agg #[.int .i64 (y : Nat), .int .i64 (m : Nat), .int .i64 (d : Nat), .int .i64 (h : Nat), .int .i64 (mi : Nat), .int .i64 (s : Nat), .int .i64 (wk : Nat)]] w fun e w' => e = .returned (.string ⟨(clk h mi s).toArray⟩) ∧ Below w.heap.size w w' := by
  have hn := ext_some (w.alloc (.cells #[.int .i64 (y : Nat), .int .i64 (m : Nat), .int .i64 (d : Nat), .int .i64 (h : Nat), .int .i64 (mi : Nat), .int .i64 (s : Nat), .int .i64 (wk : Nat)] 81))
  have hc := ext_cell (w.alloc (.cells #[.int .i64 (y : Nat), .int .i64 (m : Nat), .int .i64 (d : Nat), .int .i64 (h : Nat), .int .i64 (mi : Nat), .int .i64 (s : Nat), .int .i64 (wk : Nat)] 81))
  have hcat := ByteArray.mk_append_mk
  have l1 := two_len h 48
  have l2 := two_len mi 48
  have l3 := two_len s 48
  go_enter Tryz.func68, Tryz.ntmps68
  go_wp2
  refine wp_region_ext (by kernel_rfl) (by kernel_rfl) ?_
  repeat (go_big_quiet_step ((go_at_call 67; exact ext_same (twoPlaces_zero _ (by omega) _))))
  refine wpQuiet_nil ?_
  rintro w1 ⟨⟨_, hb1⟩, rfl⟩
  go_wp2
  go_ret
  exact ⟨ret_str (by simp [clk]), ((Below.refl _ _).alloc (Nat.le_refl _) _).trans (hb1.mono (by simp))⟩
end Go.Proofs.YtcmhaihoeecjoaaGreatDoor.Da

end
section
namespace Go.Proofs.YtcmhaihoeecjoaaGreatDoor.Da
open Go.RowKit

def mailL (y m d h mi s wk : Nat) : List UInt8 := wkd wk ++ [44, 32] ++ two d 48 ++ [32] ++ mon m ++ [32] ++ year y ++ [32] ++ clk h mi s ++ [32, 43, 48, 48, 48, 48]
def boxL (y m d h mi s wk : Nat) : List UInt8 := wkd wk ++ [32] ++ mon m ++ [32] ++ two d 32 ++ [32] ++ clk h mi s ++ [32] ++ year y
def internalL (y m d h mi s _wk : Nat) : List UInt8 := two d 32 ++ [45] ++ mon m ++ [45] ++ year y ++ [32] ++ clk h mi s ++ [32, 43, 48, 48, 48, 48]
def dayL (y m d _h _mi _s _wk : Nat) : List UInt8 := day1 d ++ [45] ++ mon m ++ [45] ++ year y
theorem itoa_day (i : Nat) (hi : i < 100) (w : World) :
    Calls Tryz.prog 97 #[.int .i64 i] w fun e w' => e = .returned (.string ⟨(day1 i).toArray⟩) ∧ w' = w := by
  rw [← day_one i hi]
  exact itoa_small i hi w
/-- A right date's numbers, and a day of the week's. -/
def Dt (y m d h mi s wk : Nat) : Prop := 1970 ≤ y ∧ y ≤ 2099 ∧ 1 ≤ m ∧ m ≤ 12 ∧ 1 ≤ d ∧ d ≤ 31 ∧ h ≤ 23 ∧ mi ≤ 59 ∧ s ≤ 59 ∧ wk ≤ 6
theorem ext_tab {W : World} (h : Tab W) (u : Ext W) : Tab u.w := h.below u.ok



set_option maxHeartbeats 2000000 in
theorem box1 (y m d h mi s wk : Nat) (w : World) (ht : Tab w) (hd : Dt y m d h mi s wk) :
    Calls Tryz.prog 64 #[.agg #[.int .i64 (y : Nat), .int .i64 (m : Nat), .int .i64 (d : Nat), .int .i64 (h : Nat), .int .i64 (mi : Nat), .int .i64 (s : Nat), .int .i64 (wk : Nat)]] w fun e w' => e = .returned (.string ⟨(boxL y m d h mi s wk).toArray⟩) ∧ Below w.heap.size w w' := by
  obtain ⟨y1, y2, m1, m2, d1, d2, a2, b2, c2, k2⟩ := hd
  have HT : Hid (Tab (w.alloc (.cells #[.int .i64 (y : Nat), .int .i64 (m : Nat), .int .i64 (d : Nat), .int .i64 (h : Nat), .int .i64 (mi : Nat), .int .i64 (s : Nat), .int .i64 (wk : Nat)] 81))) := ht.below ((Below.refl _ _).alloc (Nat.le_refl _) _)
  have hn := ext_some (w.alloc (.cells #[.int .i64 (y : Nat), .int .i64 (m : Nat), .int .i64 (d : Nat), .int .i64 (h : Nat), .int .i64 (mi : Nat), .int .i64 (s : Nat), .int .i64 (wk : Nat)] 81))
  have hc := ext_cell (w.alloc (.cells #[.int .i64 (y : Nat), .int .i64 (m : Nat), .int .i64 (d : Nat), .int .i64 (h : Nat), .int .i64 (mi : Nat), .int .i64 (s : Nat), .int .i64 (wk : Nat)] 81))
  have hcat := ByteArray.mk_append_mk
  have l1 := two_len d 48
  have l2 := two_len d 32
  have l3 := year_len y
  have l4 := mon_len m
  have l5 := wkd_len wk
  have l6 := clk_len h mi s
  have l7 := day1_len d
  clear ht
  go_enter Tryz.func64, Tryz.ntmps64
  go_wp2
  refine wp_region_ext (by kernel_rfl) (by kernel_rfl) ?_
  repeat (go_big_quiet_step ((first | (go_at_call 65; exact ext_call (dayName_any _ _ _ _ _ _ _ _ (by omega) (by omega))) | (go_at_call 66; exact ext_call (monthName_any _ _ _ _ _ _ _ _ (by omega) (by omega))) | (go_at_call 69; exact ext_call (yearText_any y _ _ _ _ _ _ _ y1 y2 (ext_tab HT.out _))) | (go_at_call 68; exact ext_call (clock_any _ _ _ _ _ _ _ _ (by omega) (by omega) (by omega))) | (go_at_call 67; exact ext_same (twoPlaces_blank _ (by omega) _)))))
  refine wpQuiet_nil ?_
  rintro w1 ⟨⟨_, hb1⟩, rfl⟩
  go_wp2
  go_ret
  exact ⟨ret_str (by simp [boxL]), ((Below.refl _ _).alloc (Nat.le_refl _) _).trans (hb1.mono (by simp))⟩





end Go.Proofs.YtcmhaihoeecjoaaGreatDoor.Da

end
