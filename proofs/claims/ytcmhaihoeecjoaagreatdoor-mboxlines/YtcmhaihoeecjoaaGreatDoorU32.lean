/- Moments out of range; which dates are right. -/
/- The four texts of a moment: in range, and out of it. -/
import Derived.Test.YtcmhaihoeecjoaaGreatDoorU26
import Derived.Test.YtcmhaihoeecjoaaGreatDoorU17
import Derived.RegionTactic
import Derived.ChangeAlike
import Derived.Deep.QuietTactic
import Derived.BigQuiet
import Derived.Deep.RegionWith
import Derived.Test.YtcmhaihoeecjoaaGreatDoorU15
import Derived.Test.YtcmhaihoeecjoaaGreatDoorU31
section
namespace Go.Proofs.YtcmhaihoeecjoaaGreatDoor.Da
open Go.RowKit

set_option maxHeartbeats 1000000 in
theorem civil_no (t : Int) (w : World) (a : Nat → Addr) (hE : Errs w a) (h : t < 0 ∨ 4102444799 < t) :
    Calls Tryz.prog 95 #[.int .i64 t] w fun e w' => e = .returned (.tuple #[.agg #[.int .i64 0, .int .i64 0, .int .i64 0, .int .i64 0, .int .i64 0, .int .i64 0, .int .i64 0], .iface 167 (.pointer (some (a 0)))]) ∧ Below w.heap.size w w' := by
  have hb : btw t 0 4102444799 = false := btw_not h
  have c0 : w.cell? ⟨0, 0, none⟩ = some (.iface 167 (.pointer (some (a 0)))) := hE.cell 0 (by decide)
  have l0 : 0 < w.heap.size := hE.low 0 (by decide)
  clear hE
  go_enter Tryz.func95, Tryz.ntmps95
  go_wp2_with (go_at_call 117; refine (inRange_any _ _).mono ?_; rintro e w' ⟨rfl, rfl⟩)
  go_region
  go_wp2
  exact bodyPost_ret (v := .tuple #[.agg #[.int .i64 0, .int .i64 0, .int .i64 0, .int .i64 0, .int .i64 0, .int .i64 0, .int .i64 0], .iface 167 (.pointer (some (a 0)))]) (by simp [results, Tryz.results95, go_sem]) rfl ⟨rfl, ((Below.refl _ _).alloc (Nat.le_refl _) _).drew⟩

set_option maxHeartbeats 1000000 in
theorem rcivil_no (t : Int) (w : World) (h : t < 0 ∨ 4102444799 < t) :
    Calls Tryz.prog 43 #[.int .i64 t] w fun e w' => e = .returned (.tuple #[.agg #[.int .i64 0, .int .i64 0, .int .i64 0, .int .i64 0, .int .i64 0, .int .i64 0, .int .i64 0], .bool false]) ∧ Below w.heap.size w w' := by
  by_cases h0 : t < 0
  all_goals
    go_enter Tryz.func43, Tryz.ntmps43
    go_wp2
    exact bodyPost_ret (v := .tuple #[.agg #[.int .i64 0, .int .i64 0, .int .i64 0, .int .i64 0, .int .i64 0, .int .i64 0, .int .i64 0], .bool false]) (by simp [results, Tryz.results43, go_sem]) rfl ⟨rfl, (Below.refl _ _).alloc (Nat.le_refl _) _⟩
end Go.Proofs.YtcmhaihoeecjoaaGreatDoor.Da

end
section
namespace Go.Proofs.YtcmhaihoeecjoaaGreatDoor.Da
open Go.RowKit

/-- The dates of a moment in range, by the program and by the document, in natural numbers. -/
theorem dates_nat (t : Int) (h0 : 0 ≤ t) (h1 : t ≤ 4102444799) : ∃ y m d h mi s wk : Nat, Dt y m d h mi s wk ∧
    Hid (∀ w, Calls Tryz.prog 95 #[.int .i64 t] w fun e w' => e = .returned (.tuple #[.agg #[.int .i64 (y : Nat), .int .i64 (m : Nat), .int .i64 (d : Nat), .int .i64 (h : Nat), .int .i64 (mi : Nat), .int .i64 (s : Nat), .int .i64 (wk : Nat)], .nilIface]) ∧ Below w.heap.size w w') ∧
    Hid (∀ w, Calls Tryz.prog 43 #[.int .i64 t] w fun e w' => e = .returned (.tuple #[.agg #[.int .i64 (y : Nat), .int .i64 (m : Nat), .int .i64 (d : Nat), .int .i64 (h : Nat), .int .i64 (mi : Nat), .int .i64 (s : Nat), .int .i64 (wk : Nat)], .bool true]) ∧ Below w.heap.size w w') := by
  obtain ⟨y1, y2, m1, m2, d1, d2, _⟩ := Cal.date_spec (t / 86400) (by omega) (by omega)
  have dr := Cal.dim_range (Cal.cy (t / 86400)) (Cal.cm (t / 86400))
  have hc := fun w => civil_yes t w h0 h1
  have hr := fun w => rcivil_yes t w h0 h1
  obtain ⟨y, ey⟩ := Int.eq_ofNat_of_zero_le (show 0 ≤ Cal.cy (t / 86400) by omega)
  obtain ⟨m, em⟩ := Int.eq_ofNat_of_zero_le (show 0 ≤ Cal.cm (t / 86400) by omega)
  obtain ⟨d, ed⟩ := Int.eq_ofNat_of_zero_le (show 0 ≤ Cal.cd (t / 86400) by omega)
  obtain ⟨h, eh⟩ := Int.eq_ofNat_of_zero_le (show 0 ≤ t % 86400 / 3600 by omega)
  obtain ⟨mi, emi⟩ := Int.eq_ofNat_of_zero_le (show 0 ≤ t % 3600 / 60 by omega)
  obtain ⟨s, es⟩ := Int.eq_ofNat_of_zero_le (show 0 ≤ t % 60 by omega)
  obtain ⟨wk, ewk⟩ := Int.eq_ofNat_of_zero_le (show 0 ≤ (4 + t / 86400) % 7 by omega)
  rw [ey, em, ed, eh, emi, es, ewk] at hc hr
  exact ⟨y, m, d, h, mi, s, wk, ⟨by omega, by omega, by omega, by omega, by omega, by omega, by omega, by omega, by omega, by omega⟩, hc, hr⟩

set_option maxHeartbeats 2000000 in
theorem rbox_yes (t : Int) (y m d h mi s wk : Nat) (w : World) (hd : Dt y m d h mi s wk)
    (HR : Hid (∀ w, Calls Tryz.prog 43 #[.int .i64 t] w fun e w' => e = .returned (.tuple #[.agg #[.int .i64 (y : Nat), .int .i64 (m : Nat), .int .i64 (d : Nat), .int .i64 (h : Nat), .int .i64 (mi : Nat), .int .i64 (s : Nat), .int .i64 (wk : Nat)], .bool true]) ∧ Below w.heap.size w w')) :
    Calls Tryz.prog 23 #[.int .i64 t] w fun e w' => e = .returned (.string ⟨(boxL y m d h mi s wk).toArray⟩) ∧ Below w.heap.size w w' := by
  obtain ⟨y1, y2, m1, m2, d1, d2, a2, b2, c2, k2⟩ := hd
  have hcat := ByteArray.mk_append_mk
  have l1 := two_len d 48
  have l2 := two_len d 32
  have l3 := year_len y
  have l4 := mon_len m
  have l5 := wkd_len wk
  have l6 := clk_len h mi s
  have l7 := day1_len d
  go_enter Tryz.func23, Tryz.ntmps23
  go_wp2_with (go_at_call 43; refine (HR.out _).mono ?_; rintro e w1 ⟨rfl, hb1⟩)
  have hn := ext_some (w1.alloc (.cells #[.int .i64 (y : Nat), .int .i64 (m : Nat), .int .i64 (d : Nat), .int .i64 (h : Nat), .int .i64 (mi : Nat), .int .i64 (s : Nat), .int .i64 (wk : Nat)] 81))
  have hc := ext_cell (w1.alloc (.cells #[.int .i64 (y : Nat), .int .i64 (m : Nat), .int .i64 (d : Nat), .int .i64 (h : Nat), .int .i64 (mi : Nat), .int .i64 (s : Nat), .int .i64 (wk : Nat)] 81))
  refine wp_region_ext (by kernel_rfl) (by kernel_rfl) ?_
  repeat (go_big_quiet_step ((first | (go_at_call 44; exact ext_call (rweek_any _ _ _ _ _ _ _ _ (by omega) (by omega))) | (go_at_call 45; exact ext_same (rmonth_any _ _ (by omega) (by omega))) | (go_at_call 47; exact ext_call (rclock_any _ _ _ _ _ _ _ _ (by omega) (by omega) (by omega))) | (go_at_call_of 46 (Value.int .i64 4); exact ext_call (ryear y (by omega) _)) | (go_at_call 46; exact ext_call (rtwo_blank d (by omega) _)))))
  refine wpQuiet_nil ?_
  rintro w2 ⟨⟨_, hb2⟩, rfl⟩
  go_wp2
  go_ret
  exact ⟨ret_str (by simp [boxL]), (hb1.alloc hb1.size _).trans (hb2.mono (by have := hb1.size; simp; omega))⟩

set_option maxHeartbeats 1000000 in
theorem rbox_no (t : Int) (w : World) (ht : t < 0 ∨ 4102444799 < t) :
    Calls Tryz.prog 23 #[.int .i64 t] w fun e w' => e = .returned (.string ⟨#[]⟩) ∧ Below w.heap.size w w' := by
  have HR : Hid (∀ w, Calls Tryz.prog 43 #[.int .i64 t] w fun e w' => e = .returned (.tuple #[.agg #[.int .i64 0, .int .i64 0, .int .i64 0, .int .i64 0, .int .i64 0, .int .i64 0, .int .i64 0], .bool false]) ∧ Below w.heap.size w w') := fun w => rcivil_no t w ht
  clear ht
  go_enter Tryz.func23, Tryz.ntmps23
  go_wp2_with (go_at_call 43; refine (HR.out _).mono ?_; rintro e w1 ⟨rfl, hb1⟩)
  go_ret
  exact ⟨rfl, hb1.alloc hb1.size _⟩

set_option maxHeartbeats 1000000 in
theorem box_no (t : Int) (w : World) (a : Nat → Addr) (hE : Errs w a) (ht : t < 0 ∨ 4102444799 < t) :
    Calls Tryz.prog 33 #[.int .i64 t] w fun e w' => e = .returned (.tuple #[.string ⟨#[]⟩, .iface 167 (.pointer (some (a 0)))]) ∧ Below w.heap.size w w' := by
  have HC : Hid (∀ w, Errs w a → Calls Tryz.prog 95 #[.int .i64 t] w fun e w' => e = .returned (.tuple #[.agg #[.int .i64 0, .int .i64 0, .int .i64 0, .int .i64 0, .int .i64 0, .int .i64 0, .int .i64 0], .iface 167 (.pointer (some (a 0)))]) ∧ Below w.heap.size w w') := fun w hE => civil_no t w a hE ht
  have HE : Hid (Errs w a) := hE
  clear ht hE
  go_enter Tryz.func33, Tryz.ntmps33
  go_wp2_with (first | (go_at_call 95; refine (HC.out _ HE.out).mono ?_; rintro e w1 ⟨rfl, hb1⟩) | (go_at_call 63; go_in))
  go_ret2
  exact ⟨rfl, hb1.alloc hb1.size _⟩

end Go.Proofs.YtcmhaihoeecjoaaGreatDoor.Da

end
