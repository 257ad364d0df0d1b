/- dates.dateOf: the date of a day's number, by two loops over a struct in memory. -/
/- dates.Civil at every moment, and the statements' example. -/
import Derived.Test.YtcmhaihoeecjoaaGreatDoorU13
section
namespace Go.Proofs.YtcmhaihoeecjoaaGreatDoor.Da
open Go.RowKit

theorem bcell {W w1 : World} (hb : Below W.heap.size W w1) : (∀ b o, b < W.heap.size → w1.cell? ⟨b, o, none⟩ = W.cell? ⟨b, o, none⟩) ∧ (∀ b o, b < W.heap.size → w1.frozen? ⟨b, o, none⟩ = W.frozen? ⟨b, o, none⟩) :=
  ⟨fun b o h => hb.cell (p := ⟨b, o, none⟩) h, fun b o h => hb.frozen (p := ⟨b, o, none⟩) h⟩

set_option maxHeartbeats 1000000 in
theorem dateOf_yes (d : Int) (w : World) (h0 : 0 ≤ d) (h1 : d ≤ 47481) :
    Calls Tryz.prog 118 #[.int .i64 d] w fun e w' => e = .returned (.agg #[.int .i64 (Cal.cy d), .int .i64 (Cal.cm d), .int .i64 (Cal.cd d), .int .i64 0, .int .i64 0, .int .i64 0, .int .i64 ((4 + d) % 7)]) ∧ Below w.heap.size w w' := by
  go_enter Tryz.func118, Tryz.ntmps118
  go_wp2
  go_loopw [0] (fun s wr => ∃ y : Int, 1970 ≤ y ∧ y ≤ 2099 ∧ Cal.dby y ≤ d ∧ s = .int .i64 (d - Cal.dby y) ∧
      wr = (w.alloc (.cells #[.int .i64 0, .int .i64 0, .int .i64 0, .int .i64 0, .int .i64 0, .int .i64 0, .int .i64 0] 81)).alloc (.cells #[.int .i64 y, .int .i64 1, .int .i64 0, .int .i64 0, .int .i64 0, .int .i64 0, .int .i64 ((4 + d) % 7)] 81))
    (fun s _ => (intOf s).toNat)
  case atStart => exact ⟨1970, by omega, by omega, by rw [Cal.dby_0]; omega, by simp [Cal.dby_0], rfl⟩
  case round =>
    obtain ⟨y, hy1, hy2, hy3, rfl, rfl⟩ := hrel
    have hs := Cal.dby_succ y
    have HS : Hid (Cal.dby (y + 1) = Cal.dby y + 365 + Cal.lp y) := hs
    have hl := Cal.lp_01 y
    have hb := Cal.dby_bd y hy1 (by omega)
    by_cases hc : 365 + Cal.lp y ≤ d - Cal.dby y
    · have hy4 : y ≤ 2098 := by
        rcases Int.lt_or_le y 2099 with h | h
        · omega
        · obtain rfl : y = 2099 := by omega
          have := Cal.dby_last
          rw [show (2099 : Int) + 1 = 2100 from rfl] at hs
          omega
      clear hs
      go_wp2_with (go_at_call 130; refine (yd_any _ _).mono ?_; rintro e w' ⟨rfl, rfl⟩)
      go_roundw
      case rel => exact ⟨y + 1, by omega, by omega, by rw [HS.out]; omega, by rw [HS.out]; go_num, rfl⟩
      case measure => simp [intOf]; omega
    · have hlt : d < Cal.dby (y + 1) := by omega
      clear hs
      go_wp2_with (go_at_call 130; refine (yd_any _ _).mono ?_; rintro e w' ⟨rfl, rfl⟩)
      go_loopw [0] (fun s wr => ∃ m : Int, 1 ≤ m ∧ m ≤ 12 ∧ Cal.cum y m ≤ d - Cal.dby y ∧ s = .int .i64 (d - Cal.dby y - Cal.cum y m) ∧
          wr = (w.alloc (.cells #[.int .i64 0, .int .i64 0, .int .i64 0, .int .i64 0, .int .i64 0, .int .i64 0, .int .i64 0] 81)).alloc (.cells #[.int .i64 y, .int .i64 m, .int .i64 0, .int .i64 0, .int .i64 0, .int .i64 0, .int .i64 ((4 + d) % 7)] 81))
        (fun s _ => (intOf s).toNat)
      case atStart => exact ⟨1, by omega, by omega, by simp [Cal.cum]; omega, by simp [Cal.cum], rfl⟩
      case round =>
        obtain ⟨m, hm1, hm2, hm3, rfl, rfl⟩ := hrel
        have cb := Cal.cum_range y m hm1 (by omega)
        have db := Cal.dim_range y m
        have dp := Cal.dim_pos y m hm1 hm2
        have cs := Cal.cum_succ y m hm1 hm2
        have CS : Hid (Cal.cum y (m + 1) = Cal.cum y m + Cal.dim y m) := cs
        by_cases hd : Cal.dim y m ≤ d - Cal.dby y - Cal.cum y m
        · have hm4 : m ≤ 11 := by
            rcases Int.lt_or_le m 12 with h | h
            · omega
            · obtain rfl : m = 12 := by omega
              have h13 : Cal.cum y (12 + 1) = 365 + Cal.lp y := by simp [Cal.cum]
              omega
          clear cs
          go_wp2_with (go_at_call 131; refine (days_any _ _ _).mono ?_; rintro e w' ⟨rfl, rfl⟩)
          go_roundw
          case rel => exact ⟨m + 1, by omega, by omega, by rw [CS.out]; omega, by rw [CS.out]; go_num, rfl⟩
          case measure => simp [intOf]; omega
        · have hv : d - Cal.dby y < Cal.cum y m + Cal.dim y m := by omega
          have HE : Hid (y = Cal.cy d ∧ m = Cal.cm d ∧ d - Cal.dby y - Cal.cum y m + 1 = Cal.cd d) := Cal.date_of d y m h0 h1 hy3 hlt hm1 hm2 hm3 hv
          clear cs
          go_wp2_with (go_at_call 131; refine (days_any _ _ _).mono ?_; rintro e w' ⟨rfl, rfl⟩)
          refine bodyPost_ret (v := .agg #[.int .i64 y, .int .i64 m, .int .i64 (d - Cal.dby y - Cal.cum y m + 1), .int .i64 0, .int .i64 0, .int .i64 0, .int .i64 ((4 + d) % 7)]) (by simp [results, Tryz.results118, go_sem]) rfl ⟨by rw [← HE.out.1, ← HE.out.2.1, ← HE.out.2.2], ?_⟩
          repeat (first | exact Below.refl _ _ | refine Below.alloc ?_ (by simp) _ | refine Below.setCell ?_ (by simp) _)
end Go.Proofs.YtcmhaihoeecjoaaGreatDoor.Da

end
section
namespace Go.Proofs.YtcmhaihoeecjoaaGreatDoor.Da
open Go.RowKit

set_option maxHeartbeats 1000000 in
theorem civil_yes (t : Int) (w : World) (h0 : 0 ≤ t) (h1 : t ≤ 4102444799) :
    Calls Tryz.prog 95 #[.int .i64 t] w fun e w' => e = .returned (.tuple #[.agg #[.int .i64 (Cal.cy (t / 86400)), .int .i64 (Cal.cm (t / 86400)), .int .i64 (Cal.cd (t / 86400)),
      .int .i64 (t % 86400 / 3600), .int .i64 (t % 3600 / 60), .int .i64 (t % 60), .int .i64 ((4 + t / 86400) % 7)], .nilIface]) ∧ Below w.heap.size w w' := by
  have hb : btw t 0 4102444799 = true := btw_mk h0 h1
  go_enter Tryz.func95, Tryz.ntmps95
  go_wp2_with (go_at_call 117; refine (inRange_any _ _).mono ?_; rintro e w' ⟨rfl, rfl⟩)
  refine (dateOf_yes _ _ (by omega) (by omega)).mono ?_
  rintro e w1 ⟨rfl, hb1⟩
  obtain ⟨hc, hf⟩ := bcell hb1
  have hz : w.heap.size < w1.heap.size := by have := hb1.size; simp at this; omega
  simp only [World.size_alloc] at hc hf
  go_wp2
  refine bodyPost_ret (v := .tuple #[.agg #[.int .i64 (Cal.cy (t / 86400)), .int .i64 (Cal.cm (t / 86400)), .int .i64 (Cal.cd (t / 86400)),
      .int .i64 (t % 86400 / 3600), .int .i64 (t % 3600 / 60), .int .i64 (t % 60), .int .i64 ((4 + t / 86400) % 7)], .nilIface]) (by simp [results, Tryz.results95, go_sem, hc, hz]) rfl ⟨rfl, ?_⟩
  refine Below.alloc ?_ (by simp; omega) _
  iterate 7 (refine Below.setCell ?_ (by simp) _)
  exact ((Below.refl _ _).alloc (Nat.le_refl _) _).trans (hb1.mono (by simp))

/-- The statements' example: the moment 951782400 is February 29, 2000, a Tuesday. -/
theorem feb_date : Cal.cy 11016 = 2000 ∧ Cal.cm 11016 = 2 ∧ Cal.cd 11016 = 29 := by decide

end Go.Proofs.YtcmhaihoeecjoaaGreatDoor.Da

end
