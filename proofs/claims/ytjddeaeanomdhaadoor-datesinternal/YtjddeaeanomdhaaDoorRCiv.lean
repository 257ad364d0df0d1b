/- The document's moments and dates: before, Civil. -/
import Derived.Test.YtjddeaeanomdhaaDoorRDays
import Derived.Test.YtjddeaeanomdhaaDoorMem
import Derived.RegionTactic
import Derived.ChangeAlike
namespace Go.Proofs.YtjddeaeanomdhaaDoor
open Go.RowKit

set_option maxHeartbeats 1000000 in
theorem before_any (y : Int) (w : World) (h0 : 1970 ≤ y) (h1 : y ≤ 2100) :
    Calls Tryd.prog 30 #[.int .i64 y] w fun e w' => e = .returned (.int .i64 (Cal.dby y)) ∧ w' = w := by
  go_enter Tryd.func30, Tryd.ntmps30
  go_wp2
  go_loop [3, 4] (fun n k => ∃ z : Int, 1970 ≤ z ∧ z ≤ y ∧ k = .int .i64 z ∧ n = .int .i64 (Cal.dby z)) (fun _ k => (y - intOf k).toNat)
  case atStart => exact ⟨1970, by omega, h0, rfl, by rw [Cal.dby_0]⟩
  case round =>
    obtain ⟨z, hz1, hz2, rfl, rfl⟩ := hrel
    have hb := Cal.dby_bd z hz1 (by omega)
    by_cases hlt : z < y
    · have HS : Hid (Cal.dby (z + 1) = Cal.dby z + 365 + Cal.lp z) := Cal.dby_succ z
      cases h : Cal.leapB z
      · have HL : Hid (Cal.lp z = 0) := Cal.leapB_false h
        go_wp2_with (go_at_call 69; refine (rleap_any _ _).mono ?_; rintro e w' ⟨rfl, rfl⟩)
        go_round
        case rel => exact ⟨z + 1, by omega, by omega, rfl, by rw [HS.out, HL.out]; go_num⟩
        case measure => simp [intOf]; omega
      · have HL : Hid (Cal.lp z = 1) := Cal.leapB_true h
        go_wp2_with (go_at_call 69; refine (rleap_any _ _).mono ?_; rintro e w' ⟨rfl, rfl⟩)
        go_round
        case rel => exact ⟨z + 1, by omega, by omega, rfl, by rw [HS.out, HL.out]⟩
        case measure => simp [intOf]; omega
    · obtain rfl : z = y := by omega
      go_wp2
      go_ret
      exact ⟨rfl, rfl⟩

def zero7 : Array Value := #[.int .i64 0, .int .i64 0, .int .i64 0, .int .i64 0, .int .i64 0, .int .i64 0, .int .i64 0]

set_option maxHeartbeats 2000000 in
theorem rcivil_yes (t : Int) (w : World) (h0 : 0 ≤ t) (h1 : t ≤ 4102444799) :
    Calls Tryd.prog 11 #[.int .i64 t] w fun e w' => e = .returned (.tuple #[.agg #[.int .i64 (Cal.cy (t / 86400)), .int .i64 (Cal.cm (t / 86400)), .int .i64 (Cal.cd (t / 86400)),
      .int .i64 (t % 86400 / 3600), .int .i64 (t % 3600 / 60), .int .i64 (t % 60), .int .i64 ((4 + t / 86400) % 7)], .bool true]) ∧ Below w.heap.size w w' := by
  obtain ⟨d, hd⟩ : ∃ d, d = t / 86400 := ⟨_, rfl⟩
  have hd0 : 0 ≤ d := by omega
  have hd1 : d ≤ 47481 := by omega
  have HD : Hid (d = t / 86400) := hd
  go_enter Tryd.func11, Tryd.ntmps11
  go_wp2_with fail
  rw [← HD.out]
  clear hd
  go_loopw [21] (fun _ wr => ∃ y : Int, 1970 ≤ y ∧ y ≤ 2099 ∧ Cal.dby y ≤ d ∧
      wr = (w.alloc (.cells #[.int .i64 0, .int .i64 0, .int .i64 0, .int .i64 0, .int .i64 0, .int .i64 0, .int .i64 0] 23)).alloc (.cells #[.int .i64 y, .int .i64 1, .int .i64 0, .int .i64 0, .int .i64 0, .int .i64 0, .int .i64 ((d + 4) % 7)] 23))
    (fun _ wr => (2100 - intOf ((wr.cell? ⟨w.heap.size + 1, 0, none⟩).getD undef)).toNat)
  case atStart => exact ⟨1970, by omega, by omega, by rw [Cal.dby_0]; omega, rfl⟩
  case round =>
    obtain ⟨y, hy1, hy2, hy3, rfl⟩ := hrel
    have hb := Cal.dby_bd (y + 1) (by omega) (by omega)
    by_cases hc : Cal.dby (y + 1) ≤ d
    · have hy4 : y ≤ 2098 := by
        rcases Int.lt_or_le y 2099 with h | h
        · omega
        · obtain rfl : y = 2099 := by omega
          have := Cal.dby_last
          rw [show (2099 : Int) + 1 = 2100 from rfl] at hc
          omega
      go_wp2_with (go_at_call 30; refine (before_any _ _ (by omega) (by omega)).mono ?_; rintro e w' ⟨rfl, rfl⟩)
      go_roundw
      case rel => exact ⟨y + 1, by omega, by omega, hc, rfl⟩
      case measure => simp [intOf]; omega
    · have hlt : d < Cal.dby (y + 1) := by omega
      have hb0 := Cal.dby_bd y hy1 (by omega)
      go_wp2_with (go_at_call 30; refine (before_any _ _ (by omega) (by omega)).mono ?_; rintro e w' ⟨rfl, rfl⟩)
      have hl := Cal.lp_01 y
      have HS : Hid (Cal.dby (y + 1) = Cal.dby y + 365 + Cal.lp y) := Cal.dby_succ y
      go_loopw [4] (fun s wr => ∃ m : Int, 1 ≤ m ∧ m ≤ 12 ∧ Cal.cum y m ≤ d - Cal.dby y ∧ s = .int .i64 (d - Cal.dby y - Cal.cum y m) ∧ Hid (Below w.heap.size w wr) ∧
          Hid (Blk wr w.heap.size #[.int .i64 0, .int .i64 0, .int .i64 0, .int .i64 0, .int .i64 0, .int .i64 0, .int .i64 0] 23) ∧
          Hid (Blk wr (w.heap.size + 1) #[.int .i64 y, .int .i64 m, .int .i64 0, .int .i64 0, .int .i64 0, .int .i64 0, .int .i64 ((d + 4) % 7)] 23))
        (fun s _ => (intOf s).toNat)
      case atStart =>
        refine ⟨1, by omega, by omega, by simp [Cal.cum]; omega, by simp [Cal.cum], ?_, ?_, ?_⟩
        · exact ((Below.refl _ _).alloc (Nat.le_refl _) _).alloc (by simp) _
        · exact (Blk.new _ _ _).alloc _
        · exact Blk.new1 _ _ _ _
      case round =>
        obtain ⟨m, hm1, hm2, hm3, rfl, HB, HR, HC⟩ := hrel
        have cb := Cal.cum_range y m hm1 (by omega)
        have db := Cal.dim_range y m
        have dp := Cal.dim_pos y m hm1 hm2
        have cs := Cal.cum_succ y m hm1 hm2
        have CS : Hid (Cal.cum y (m + 1) = Cal.cum y m + Cal.dim y m) := cs
        have hcC := HC.out.cell
        have hfC := HC.out.frozen
        have hlC := HC.out.lt
        by_cases hd : Cal.dim y m ≤ d - Cal.dby y - Cal.cum y m
        · have hm4 : m ≤ 11 := by
            rcases Int.lt_or_le m 12 with h | h
            · omega
            · obtain rfl : m = 12 := by omega
              have h13 : Cal.cum y (12 + 1) = 365 + Cal.lp y := by simp [Cal.cum]
              have := HS.out
              omega
          clear cs
          go_wp2_with fail
          refine (rdays_any _ _ _).mono ?_
          rintro e w1 ⟨rfl, hb1⟩
          have HC1 : Hid (Blk w1 (w.heap.size + 1) _ 23) := HC.out.below hb1 hlC
          have hcC1 := HC1.out.cell
          have hfC1 := HC1.out.frozen
          have hlC1 := HC1.out.lt
          go_wp2_with fail
          refine (rdays_any _ _ _).mono ?_
          rintro e w2 ⟨rfl, hb2⟩
          have HC2 : Hid (Blk w2 (w.heap.size + 1) _ 23) := HC1.out.below hb2 hlC1
          have hcC2 := HC2.out.cell
          have hfC2 := HC2.out.frozen
          go_wp2
          go_roundw
          case rel =>
            refine ⟨m + 1, by omega, by omega, by rw [CS.out]; omega, by rw [CS.out]; go_num, ?_, ?_, ?_⟩
            · exact (((HB.out.trans (hb1.mono HB.out.size)).trans (hb2.mono (Nat.le_trans HB.out.size hb1.size)))).setCell (by simp) _
            · exact ((HR.out.below hb1 HR.out.lt).below hb2 (HR.out.below hb1 HR.out.lt).lt).set_other _ _ (by simp)
            · exact HC2.out.set 1 _
          case measure => simp [intOf]; omega
        · have hv : d - Cal.dby y < Cal.cum y m + Cal.dim y m := by omega
          have HE : Hid (y = Cal.cy d ∧ m = Cal.cm d ∧ d - Cal.dby y - Cal.cum y m + 1 = Cal.cd d) := Cal.date_of d y m hd0 hd1 hy3 hlt hm1 hm2 hm3 hv
          clear cs
          go_wp2_with fail
          refine (rdays_any _ _ _).mono ?_
          rintro e w1 ⟨rfl, hb1⟩
          have HC1 : Hid (Blk w1 (w.heap.size + 1) _ 23) := HC.out.below hb1 hlC
          have HR1 : Hid (Blk w1 w.heap.size _ 23) := HR.out.below hb1 HR.out.lt
          have hcC1 := HC1.out.cell
          have hfC1 := HC1.out.frozen
          have hcR1 := HR1.out.cell
          have hfR1 := HR1.out.frozen
          go_wp2
          have e0 : (d + 4) % 7 = (4 + d) % 7 := by omega
          refine bodyPost_ret (v := .tuple #[.agg #[.int .i64 y, .int .i64 m, .int .i64 (d - Cal.dby y - Cal.cum y m + 1), .int .i64 (t % 86400 / 3600), .int .i64 (t % 3600 / 60), .int .i64 (t % 60), .int .i64 ((d + 4) % 7)], .bool true])
            (by simp [results, Tryd.results11, go_sem, hcR1]) rfl ⟨by rw [← HD.out, ← HE.out.1, ← HE.out.2.1, ← HE.out.2.2, e0], ?_⟩
          have hB := HB.out.trans (hb1.mono HB.out.size)
          repeat (refine Below.setCell ?_ (by simp) _)
          exact hB
end Go.Proofs.YtjddeaeanomdhaaDoor
