/- Each moment comes back from its date and its texts. -/
import Derived.Test.YtjddeaeanomdhabDoorParsed
import Derived.Test.YtjddeaeanomdhabDoorPMoments
import Derived.RegionTactic
import Derived.ChangeAlike
namespace Go.Proofs.YtjddeaeanomdhabDoor
open Go.RowKit

set_option maxHeartbeats 1000000 in
theorem civil_err (t : Int) (w : World) (v : Value) (c0 : w.cell? ⟨0, 0, none⟩ = some (.iface 103 v)) (l0 : 0 < w.heap.size) (h : t < 0 ∨ 4102444799 < t) :
    Calls Tryd.prog 15 #[.int .i64 t] w fun e w' => e = .returned (.tuple #[.agg #[.int .i64 0, .int .i64 0, .int .i64 0, .int .i64 0, .int .i64 0, .int .i64 0, .int .i64 0], .iface 103 v]) ∧ Below w.heap.size w w' := by
  have hb : btw t 0 4102444799 = false := btw_not h
  go_enter Tryd.func15, Tryd.ntmps15
  go_wp2_with (go_at_call 42; refine (inRange_any _ _).mono ?_; rintro e w' ⟨rfl, rfl⟩)
  go_region
  go_wp2
  exact bodyPost_ret (v := .tuple #[.agg #[.int .i64 0, .int .i64 0, .int .i64 0, .int .i64 0, .int .i64 0, .int .i64 0, .int .i64 0], .iface 103 v]) (by simp [results, Tryd.results15, go_sem]) rfl ⟨rfl, ((Below.refl _ _).alloc (Nat.le_refl _) _).drew⟩

/-- The date of a moment in range, in natural numbers, and that its moment is the moment. -/
theorem civ_nat (t : Int) (h0 : 0 ≤ t) (h1 : t ≤ 4102444799) : ∃ y m d h mi s wk : Nat, Dt y m d h mi s wk ∧ rightB y m d h mi s = true ∧ mom y m d h mi s = t ∧ rightB y m d 0 0 0 = true ∧ mom y m d 0 0 0 = t - t % 86400 ∧
    Hid (∀ w, Calls Tryd.prog 15 #[.int .i64 t] w fun e w' => e = .returned (.tuple #[.agg #[.int .i64 (y : Nat), .int .i64 (m : Nat), .int .i64 (d : Nat), .int .i64 (h : Nat), .int .i64 (mi : Nat), .int .i64 (s : Nat), .int .i64 (wk : Nat)], .nilIface]) ∧ Below w.heap.size w w') := by
  obtain ⟨y1, y2, m1, m2, d1, d2, e⟩ := Cal.date_spec (t / 86400) (by omega) (by omega)
  have dr := Cal.dim_range (Cal.cy (t / 86400)) (Cal.cm (t / 86400))
  have hc := fun w => civil_yes t w h0 h1
  have hr1 : rightB (Cal.cy (t / 86400)) (Cal.cm (t / 86400)) (Cal.cd (t / 86400)) (t % 86400 / 3600) (t % 3600 / 60) (t % 60) = true := right_yes y1 y2 m1 m2 d1 d2 (by omega) (by omega) (by omega) (by omega) (by omega) (by omega)
  have hr2 : rightB (Cal.cy (t / 86400)) (Cal.cm (t / 86400)) (Cal.cd (t / 86400)) 0 0 0 = true := right_yes y1 y2 m1 m2 d1 d2 (by omega) (by omega) (by omega) (by omega) (by omega) (by omega)
  have hm1 : mom (Cal.cy (t / 86400)) (Cal.cm (t / 86400)) (Cal.cd (t / 86400)) (t % 86400 / 3600) (t % 3600 / 60) (t % 60) = t := by unfold mom; omega
  have hm2 : mom (Cal.cy (t / 86400)) (Cal.cm (t / 86400)) (Cal.cd (t / 86400)) 0 0 0 = t - t % 86400 := by unfold mom; omega
  obtain ⟨y, ey⟩ := Int.eq_ofNat_of_zero_le (show 0 ≤ Cal.cy (t / 86400) by omega)
  obtain ⟨m, em⟩ := Int.eq_ofNat_of_zero_le (show 0 ≤ Cal.cm (t / 86400) by omega)
  obtain ⟨d, ed⟩ := Int.eq_ofNat_of_zero_le (show 0 ≤ Cal.cd (t / 86400) by omega)
  obtain ⟨h, eh⟩ := Int.eq_ofNat_of_zero_le (show 0 ≤ t % 86400 / 3600 by omega)
  obtain ⟨mi, emi⟩ := Int.eq_ofNat_of_zero_le (show 0 ≤ t % 3600 / 60 by omega)
  obtain ⟨s, es⟩ := Int.eq_ofNat_of_zero_le (show 0 ≤ t % 60 by omega)
  obtain ⟨wk, ewk⟩ := Int.eq_ofNat_of_zero_le (show 0 ≤ (4 + t / 86400) % 7 by omega)
  rw [ey, em, ed] at hr2 hm2
  rw [ey, em, ed, eh, emi, es] at hr1 hm1
  rw [ey, em, ed, eh, emi, es, ewk] at hc
  exact ⟨y, m, d, h, mi, s, wk, ⟨by omega, by omega, by omega, by omega, by omega, by omega, by omega, by omega, by omega, by omega⟩, hr1, hm1, hr2, hm2, hc⟩

theorem two48 : ∀ n, n < 100 → two n 48 = [dg (n / 10), dg (n % 10)] := by decide +kernel
theorem two32_lo : ∀ n, n < 10 → two n 32 = [32, dg n] := by decide +kernel
theorem two32_hi : ∀ n, n < 100 → 10 ≤ n → two n 32 = [dg (n / 10), dg (n % 10)] := by decide +kernel
theorem day_lo : ∀ n, n < 10 → day1 n = [dg n] := by decide +kernel
theorem day_hi : ∀ n, n < 100 → 10 ≤ n → day1 n = [dg (n / 10), dg (n % 10)] := by decide +kernel
theorem year_dg' : ∀ i, i < 130 → year (1970 + i) = [dg ((1970 + i) / 1000), dg ((1970 + i) / 100 % 10), dg ((1970 + i) / 10 % 10), dg ((1970 + i) % 10)] := by decide +kernel
theorem year_dg (n : Nat) (h0 : 1970 ≤ n) (h1 : n ≤ 2099) : year n = [dg (n / 1000), dg (n / 100 % 10), dg (n / 10 % 10), dg (n % 10)] := by
  obtain ⟨i, rfl⟩ : ∃ i, n = 1970 + i := ⟨n - 1970, by omega⟩
  exact year_dg' i (by omega)
theorem dg0 : dg 0 = 48 := by decide

theorem parse_back_day (y m d h mi s wk : Nat) (w : World) (hd : Dt y m d h mi s wk) (hr : rightB y m d 0 0 0 = true) (t0 : 0 ≤ mom y m d 0 0 0) (t1 : mom y m d 0 0 0 ≤ 4102444799) :
    Calls Tryd.prog 21 #[.string ⟨(dayL y m d h mi s wk).toArray⟩] w fun e w' => e = .returned (.tuple #[.int .i64 (mom y m d 0 0 0), .nilIface]) ∧ Below w.heap.size w w' := by
  obtain ⟨y1, y2, m1, m2, d1, d2, _⟩ := hd
  obtain ⟨j, rfl⟩ : ∃ j, m = j + 1 := ⟨m - 1, by omega⟩
  refine parse_day _ y ((j + 1 : Nat) : Int) d 0 0 0 0 w hr t0 t1 ?_
  intro b w k
  by_cases hlo : d < 10
  · have e : dayL y (j + 1) d h mi s wk = dg d :: 45 :: (mon (j + 1 : Int) ++ 45 :: dg (y / 1000) :: dg (y / 100 % 10) :: dg (y / 10 % 10) :: dg (y % 10) :: []) := by
      unfold dayL
      rw [day_lo d hlo, year_dg y y1 y2]
      simp
    rw [e] at k
    exact pday1 b d hlo j (by omega) _ _ _ _ y (by omega) (by omega) (by omega) (by omega) (by show _ = y; omega) w k
  · have e : dayL y (j + 1) d h mi s wk = dg (d / 10) :: dg (d % 10) :: 45 :: (mon (j + 1 : Int) ++ 45 :: dg (y / 1000) :: dg (y / 100 % 10) :: dg (y / 10 % 10) :: dg (y % 10) :: []) := by
      unfold dayL
      rw [day_hi d (by omega) (by omega), year_dg y y1 y2]
      simp
    rw [e] at k
    exact pday2 b (d / 10) (d % 10) d (by omega) (by omega) (by show _ = (d : Int); omega) j (by omega) _ _ _ _ y (by omega) (by omega) (by omega) (by omega) (by show _ = y; omega) w k
theorem parse_back_internal (y m d h mi s wk : Nat) (w : World) (hd : Dt y m d h mi s wk) (hr : rightB y m d h mi s = true) (t0 : 0 ≤ mom y m d h mi s) (t1 : mom y m d h mi s ≤ 4102444799) :
    Calls Tryd.prog 18 #[.string ⟨(internalL y m d h mi s wk).toArray⟩] w fun e w' => e = .returned (.tuple #[.int .i64 (mom y m d h mi s), .nilIface]) ∧ Below w.heap.size w w' := by
  obtain ⟨y1, y2, m1, m2, d1, d2, a2, b2, c2, _⟩ := hd
  obtain ⟨j, rfl⟩ : ∃ j, m = j + 1 := ⟨m - 1, by omega⟩
  refine parse_internal _ y ((j + 1 : Nat) : Int) d h mi s 0 w hr t0 t1 ?_
  intro b w k
  by_cases hlo : d < 10
  · have e : internalL y (j + 1) d h mi s wk = 32 :: dg d :: 45 :: (mon (j + 1 : Int) ++ 45 :: dg (y / 1000) :: dg (y / 100 % 10) :: dg (y / 10 % 10) :: dg (y % 10) :: 32 :: dg (h / 10) :: dg (h % 10) :: 58 :: dg (mi / 10) :: dg (mi % 10) :: 58 :: dg (s / 10) :: dg (s % 10) :: 32 :: 43 :: dg 0 :: dg 0 :: dg 0 :: dg 0 :: []) := by
      unfold internalL clk
      rw [two32_lo d hlo, year_dg y y1 y2, two48 h (by omega), two48 mi (by omega), two48 s (by omega), dg0]
      simp
    rw [e] at k
    exact pint1 b d hlo j (by omega) _ _ _ _ y (by omega) (by omega) (by omega) (by omega) (by show _ = y; omega) (h / 10) (h % 10) (mi / 10) (mi % 10) (s / 10) (s % 10) h mi s (by omega) (by omega) (by omega) (by omega) (by omega) (by omega) (by show _ = h; omega) (by show _ = mi; omega) (by show _ = s; omega) w k
  · have e : internalL y (j + 1) d h mi s wk = dg (d / 10) :: dg (d % 10) :: 45 :: (mon (j + 1 : Int) ++ 45 :: dg (y / 1000) :: dg (y / 100 % 10) :: dg (y / 10 % 10) :: dg (y % 10) :: 32 :: dg (h / 10) :: dg (h % 10) :: 58 :: dg (mi / 10) :: dg (mi % 10) :: 58 :: dg (s / 10) :: dg (s % 10) :: 32 :: 43 :: dg 0 :: dg 0 :: dg 0 :: dg 0 :: []) := by
      unfold internalL clk
      rw [two32_hi d (by omega) (by omega), year_dg y y1 y2, two48 h (by omega), two48 mi (by omega), two48 s (by omega), dg0]
      simp
    rw [e] at k
    exact pint2 b (d / 10) (d % 10) d (by omega) (by omega) (by omega) (by show _ = d; omega) j (by omega) _ _ _ _ y (by omega) (by omega) (by omega) (by omega) (by show _ = y; omega) (h / 10) (h % 10) (mi / 10) (mi % 10) (s / 10) (s % 10) h mi s (by omega) (by omega) (by omega) (by omega) (by omega) (by omega) (by show _ = h; omega) (by show _ = mi; omega) (by show _ = s; omega) w k

theorem mon_first (j : Nat) (hj : j < 12) : ∃ c r, mon (j + 1 : Int) = c :: r ∧ ((c.toNat : Int) == 32) = false ∧ ((c.toNat : Int) == 9) = false := by
  have hm : j = 0 ∨ j = 1 ∨ j = 2 ∨ j = 3 ∨ j = 4 ∨ j = 5 ∨ j = 6 ∨ j = 7 ∨ j = 8 ∨ j = 9 ∨ j = 10 ∨ j = 11 := by omega
  clear hj
  rcases hm with rfl | rfl | rfl | rfl | rfl | rfl | rfl | rfl | rfl | rfl | rfl | rfl <;> exact ⟨_, _, rfl, by decide, by decide⟩
theorem wkd_first (j : Nat) (hj : j < 7) : ∃ c r, wkd (j : Int) = c :: r ∧ ((c.toNat : Int) == 32) = false ∧ ((c.toNat : Int) == 9) = false ∧ 57 < (c.toNat : Int) := by
  have hm : j = 0 ∨ j = 1 ∨ j = 2 ∨ j = 3 ∨ j = 4 ∨ j = 5 ∨ j = 6 := by omega
  clear hj
  rcases hm with rfl | rfl | rfl | rfl | rfl | rfl | rfl <;> exact ⟨_, _, rfl, by decide, by decide, by decide⟩

theorem parse_back_mail (y m d h mi s wk : Nat) (w : World) (hd : Dt y m d h mi s wk) (hr : rightB y m d h mi s = true) (t0 : 0 ≤ mom y m d h mi s) (t1 : mom y m d h mi s ≤ 4102444799) :
    Calls Tryd.prog 8 #[.string ⟨(mailL y m d h mi s wk).toArray⟩] w fun e w' => e = .returned (.tuple #[.int .i64 (mom y m d h mi s), .nilIface]) ∧ Below w.heap.size w w' := by
  obtain ⟨y1, y2, m1, m2, d1, d2, a2, b2, c2, k2⟩ := hd
  obtain ⟨j, rfl⟩ : ∃ j, m = j + 1 := ⟨m - 1, by omega⟩
  refine parse_mail _ y ((j + 1 : Nat) : Int) d h mi s 0 w hr t0 t1 ?_
  intro b w k
  obtain ⟨cw, rw0, ew, z1, z2, z3⟩ := wkd_first wk (by omega)
  obtain ⟨cm, rm, em, n1, n2⟩ := mon_first j (by omega)
  have e : mailL y (j + 1) d h mi s wk = cw :: (rw0 ++ 44 :: 32 :: dg (d / 10) :: dg (d % 10) :: 32 :: cm :: (rm ++ 32 :: dg (y / 1000) :: dg (y / 100 % 10) :: dg (y / 10 % 10) :: dg (y % 10) :: 32 :: dg (h / 10) :: dg (h % 10) :: 58 :: dg (mi / 10) :: dg (mi % 10) :: 58 :: dg (s / 10) :: dg (s % 10) :: 32 :: 43 :: dg 0 :: dg 0 :: dg 0 :: dg 0 :: [])) := by
    unfold mailL clk
    rw [show mon ((j + 1 : Nat) : Int) = cm :: rm from em, ew, two48 d (by omega), year_dg y y1 y2, two48 h (by omega), two48 mi (by omega), two48 s (by omega), dg0]
    simp
  rw [e] at k
  exact pmail b (d / 10) (d % 10) d (by omega) (by omega) (by show _ = (d : Int); omega) j (by omega) _ _ _ _ y (by omega) (by omega) (by omega) (by omega) (by show _ = y; omega) (h / 10) (h % 10) (mi / 10) (mi % 10) (s / 10) (s % 10) h mi s (by omega) (by omega) (by omega) (by omega) (by omega) (by omega) (by show _ = h; omega) (by show _ = mi; omega) (by show _ = s; omega) wk (by omega) cw cm rw0 rm ew em z1 z2 z3 n1 n2 w k

set_option maxHeartbeats 2000000 in
theorem back_in (t T : Int) (y m d h mi s wk : Nat) (w : World) (ht : Tab w) (hd : Dt y m d h mi s wk) (h0 : 0 ≤ t) (h1 : t ≤ 4102444799) (hT : T = t - t % 86400) (hr1 : rightB y m d h mi s = true) (hm1 : mom y m d h mi s = t) (hr2 : rightB y m d 0 0 0 = true) (hm2 : mom y m d 0 0 0 = T)
    (HC : Hid (∀ w, Calls Tryd.prog 15 #[.int .i64 t] w fun e w' => e = .returned (.tuple #[.agg #[.int .i64 (y : Nat), .int .i64 (m : Nat), .int .i64 (d : Nat), .int .i64 (h : Nat), .int .i64 (mi : Nat), .int .i64 (s : Nat), .int .i64 (wk : Nat)], .nilIface]) ∧ Below w.heap.size w w')) :
    Calls Tryd.prog 5 #[.int .i64 t] w fun e w' => e = .returned (.bool true) ∧ Below w.heap.size w w' := by
  have HT : Hid (Tab w) := ht
  have HMo : Hid (∀ w, Calls Tryd.prog 16 #[.agg #[.int .i64 (y : Nat), .int .i64 (m : Nat), .int .i64 (d : Nat), .int .i64 (h : Nat), .int .i64 (mi : Nat), .int .i64 (s : Nat), .int .i64 (wk : Nat)]] w fun e w' => e = .returned (.tuple #[.int .i64 t, .nilIface]) ∧ Below w.heap.size w w') := fun w => by have := moment_yes y m d h mi s wk w hr1; rw [hm1] at this; exact this
  have HIn : Hid (∀ w, Tab w → Calls Tryd.prog 17 #[.int .i64 t] w fun e w' => e = .returned (.tuple #[.string ⟨(internalL y m d h mi s wk).toArray⟩, .nilIface]) ∧ Below w.heap.size w w') := fun w hw => internal_yes t y m d h mi s wk w hw hd HC
  have HMa : Hid (∀ w, Tab w → Calls Tryd.prog 19 #[.int .i64 t] w fun e w' => e = .returned (.tuple #[.string ⟨(mailL y m d h mi s wk).toArray⟩, .nilIface]) ∧ Below w.heap.size w w') := fun w hw => mail_yes t y m d h mi s wk w hw hd HC
  have HDa : Hid (∀ w, Tab w → Calls Tryd.prog 20 #[.int .i64 t] w fun e w' => e = .returned (.tuple #[.string ⟨(dayL y m d h mi s wk).toArray⟩, .nilIface]) ∧ Below w.heap.size w w') := fun w hw => day_yes t y m d h mi s wk w hw hd HC
  have HPI : Hid (∀ w, Calls Tryd.prog 18 #[.string ⟨(internalL y m d h mi s wk).toArray⟩] w fun e w' => e = .returned (.tuple #[.int .i64 t, .nilIface]) ∧ Below w.heap.size w w') := fun w => by have := parse_back_internal y m d h mi s wk w hd hr1 (by omega) (by omega); rw [hm1] at this; exact this
  have HPM : Hid (∀ w, Calls Tryd.prog 8 #[.string ⟨(mailL y m d h mi s wk).toArray⟩] w fun e w' => e = .returned (.tuple #[.int .i64 t, .nilIface]) ∧ Below w.heap.size w w') := fun w => by have := parse_back_mail y m d h mi s wk w hd hr1 (by omega) (by omega); rw [hm1] at this; exact this
  have HPD : Hid (∀ w, Calls Tryd.prog 21 #[.string ⟨(dayL y m d h mi s wk).toArray⟩] w fun e w' => e = .returned (.tuple #[.int .i64 T, .nilIface]) ∧ Below w.heap.size w w') := fun w => by have := parse_back_day y m d h mi s wk w hd hr2 (by omega) (by omega); rw [hm2] at this; exact this
  have HTT : Hid (T = t - t % 86400) := hT
  clear ht hd hr1 hm1 hr2 hm2 hT
  generalize internalL y m d h mi s wk = lI at *
  generalize mailL y m d h mi s wk = lM at *
  generalize dayL y m d h mi s wk = lD at *
  go_enter Tryd.func5, Tryd.ntmps5
  go_wp2_with (go_at_call 7; refine (alive_yes _).mono ?_; rintro e w1 ⟨rfl, hb1⟩)
  refine (HC.out _).mono ?_
  rintro e w2 ⟨rfl, hb2⟩
  have HB2 : Hid (Below w.heap.size w w2) := hb1.trans (hb2.mono hb1.size)
  clear hb1 hb2
  go_wp2_with fail
  refine (HMo.out _).mono ?_
  rintro e w3 ⟨rfl, hb3⟩
  have HB3 : Hid (Below w.heap.size w w3) := (HB2.out.alloc HB2.out.size _).trans (hb3.mono (by have := HB2.out.size; simp; omega))
  clear hb3
  go_wp2_with fail
  refine (HIn.out _ (HT.out.below HB3.out)).mono ?_
  rintro e w4 ⟨rfl, hb4⟩
  have HB4 : Hid (Below w.heap.size w w4) := HB3.out.trans (hb4.mono HB3.out.size)
  clear hb4
  go_wp2_with fail
  refine (HPI.out _).mono ?_
  rintro e w5 ⟨rfl, hb5⟩
  have HB5 : Hid (Below w.heap.size w w5) := HB4.out.trans (hb5.mono HB4.out.size)
  clear hb5
  go_wp2_with fail
  refine (HMa.out _ (HT.out.below HB5.out)).mono ?_
  rintro e w6 ⟨rfl, hb6⟩
  have HB6 : Hid (Below w.heap.size w w6) := HB5.out.trans (hb6.mono HB5.out.size)
  clear hb6
  go_wp2_with fail
  refine (HPM.out _).mono ?_
  rintro e w7 ⟨rfl, hb7⟩
  have HB7 : Hid (Below w.heap.size w w7) := HB6.out.trans (hb7.mono HB6.out.size)
  clear hb7
  go_wp2_with fail
  refine (HDa.out _ (HT.out.below HB7.out)).mono ?_
  rintro e w8 ⟨rfl, hb8⟩
  have HB8 : Hid (Below w.heap.size w w8) := HB7.out.trans (hb8.mono HB7.out.size)
  clear hb8
  go_wp2_with fail
  refine (HPD.out _).mono ?_
  rintro e w9 ⟨rfl, hb9⟩
  have HB9 : Hid (Below w.heap.size w w9) := HB8.out.trans (hb9.mono HB8.out.size)
  clear hb9
  rw [HTT.out]
  go_wp2
  go_ret
  exact ⟨rfl, HB9.out⟩

set_option maxHeartbeats 1000000 in
theorem back_out (t : Int) (w : World) (v : Value) (c0 : w.cell? ⟨0, 0, none⟩ = some (.iface 103 v)) (l0 : 0 < w.heap.size) (h : t < 0 ∨ 4102444799 < t) :
    Calls Tryd.prog 5 #[.int .i64 t] w fun e w' => e = .returned (.bool true) ∧ Below w.heap.size w w' := by
  have HC : Hid (∀ w1, Below w.heap.size w w1 → Calls Tryd.prog 15 #[.int .i64 t] w1 fun e w' => e = .returned (.tuple #[.agg #[.int .i64 0, .int .i64 0, .int .i64 0, .int .i64 0, .int .i64 0, .int .i64 0, .int .i64 0], .iface 103 v]) ∧ Below w1.heap.size w1 w') := fun w1 hb => civil_err t w1 v (by rw [hb.cell (p := ⟨0, 0, none⟩) l0]; exact c0) (Nat.lt_of_lt_of_le l0 hb.size) h
  clear c0 l0
  rcases h with h | h
  · go_enter Tryd.func5, Tryd.ntmps5
    go_wp2_with (go_at_call 7; refine (alive_yes _).mono ?_; rintro e w1 ⟨rfl, hb1⟩)
    refine (HC.out _ hb1).mono ?_
    rintro e w2 ⟨rfl, hb2⟩
    go_wp2
    go_ret
    exact ⟨rfl, (hb1.trans (hb2.mono hb1.size)).alloc (Nat.le_trans hb1.size hb2.size) _⟩
  · have h' : ¬ t < 0 := by omega
    go_enter Tryd.func5, Tryd.ntmps5
    go_wp2_with (go_at_call 7; refine (alive_yes _).mono ?_; rintro e w1 ⟨rfl, hb1⟩)
    refine (HC.out _ hb1).mono ?_
    rintro e w2 ⟨rfl, hb2⟩
    go_wp2
    go_ret
    exact ⟨rfl, (hb1.trans (hb2.mono hb1.size)).alloc (Nat.le_trans hb1.size hb2.size) _⟩

theorem back_law (t : Int) (w : World) (v : Value) (c0 : w.cell? ⟨0, 0, none⟩ = some (.iface 103 v)) (l0 : 0 < w.heap.size) (ht : Tab w) :
    Calls Tryd.prog 5 #[.int .i64 t] w fun e w' => e = .returned (.bool true) ∧ Below w.heap.size w w' := by
  by_cases hr : 0 ≤ t ∧ t ≤ 4102444799
  · obtain ⟨y, m, d, h, mi, s, wk, hd, hr1, hm1, hr2, hm2, HC⟩ := civ_nat t hr.1 hr.2
    exact back_in t _ y m d h mi s wk w ht hd hr.1 hr.2 rfl hr1 hm1 hr2 hm2 HC
  · exact back_out t w v c0 l0 (by omega)
end Go.Proofs.YtjddeaeanomdhabDoor
