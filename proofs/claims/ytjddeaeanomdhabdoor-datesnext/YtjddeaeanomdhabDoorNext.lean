/- The law DatesNext. -/
import Derived.Test.YtjddeaeanomdhabDoorCivil
import Derived.Test.YtjddeaeanomdhabDoorNextMath
import Derived.Deep.QuietTactic
import Derived.BigQuiet
namespace Go.Proofs.YtjddeaeanomdhabDoor
open Go.RowKit

theorem below_chain {w w1 w2 w3 w4 : World} {A B : Obj} (hb1 : Below w.heap.size w w1) (hb2 : Below w1.heap.size w1 w2) (hb3 : Below (w2.alloc A).heap.size (w2.alloc A) w3) (hb4 : Below (w3.alloc B).heap.size (w3.alloc B) w4) :
    Below w.heap.size w w4 ∧ w.heap.size ≤ w2.heap.size ∧ w.heap.size ≤ w4.heap.size := by
  have s1 := hb1.size
  have s2 := hb2.size
  have s3 := hb3.size
  have s4 := hb4.size
  rw [World.size_alloc] at s3 s4
  have k2 : Below w.heap.size w w2 := hb1.trans (hb2.mono s1)
  have k3 : Below w.heap.size w w3 := (k2.alloc (by omega) A).trans (hb3.mono (by rw [World.size_alloc]; omega))
  have k4 : Below w.heap.size w w4 := (k3.alloc (by omega) B).trans (hb4.mono (by rw [World.size_alloc]; omega))
  exact ⟨k4, by omega, by omega⟩

/-- What Civil answers, by the date's seven numbers. -/
def CivilIs (t y m d h mi s wk : Int) : Prop := ∀ w, Calls Tryd.prog 15 #[.int .i64 t] w fun e w' =>
  e = .returned (.tuple #[.agg #[.int .i64 y, .int .i64 m, .int .i64 d, .int .i64 h, .int .i64 mi, .int .i64 s, .int .i64 wk], .nilIface]) ∧ Below w.heap.size w w'

theorem next_out (t : Int) (w : World) (h : t < 0 ∨ 4102358399 < t) :
    Calls Tryd.prog 6 #[.int .i64 t] w fun e w' => e = .returned (.bool true) ∧ Below w.heap.size w w' := by
  rcases h with h | h
  · go_enter Tryd.func6, Tryd.ntmps6
    go_wp2_with (go_at_call 7; refine (alive_yes _).mono ?_; rintro e w1 ⟨rfl, hb1⟩)
    go_ret
    exact ⟨rfl, hb1⟩
  · have h' : ¬ t < 0 := by omega
    go_enter Tryd.func6, Tryd.ntmps6
    go_wp2_with (go_at_call 7; refine (alive_yes _).mono ?_; rintro e w1 ⟨rfl, hb1⟩)
    go_ret
    exact ⟨rfl, hb1⟩

set_option maxHeartbeats 2000000 in
theorem next_A (t y m d h mi s wk yc mc dc : Int) (w : World) (h0 : 0 ≤ t) (h1 : t ≤ 4102358399) (hs0 : 0 ≤ s) (hs : s < 59) (hk0 : 0 ≤ wk) (hk1 : wk ≤ 6)
    (HA : Hid (CivilIs t y m d h mi s wk)) (HB : Hid (CivilIs (t + 1) y m d h mi (s + 1) wk)) (HC : Hid (CivilIs (t + 86400) yc mc dc h mi s ((wk + 1) % 7))) :
    Calls Tryd.prog 6 #[.int .i64 t] w fun e w' => e = .returned (.bool true) ∧ Below w.heap.size w w' := by
  go_enter Tryd.func6, Tryd.ntmps6
  go_wp2_with (go_at_call 7; refine (alive_yes _).mono ?_; rintro e w1 ⟨rfl, hb1⟩)
  refine (HA.out _).mono ?_
  rintro e w2 ⟨rfl, hb2⟩
  go_wp2_with fail
  refine (HB.out _).mono ?_
  rintro e w3 ⟨rfl, hb3⟩
  obtain ⟨hc3, hf3⟩ := bcell hb3
  simp only [World.size_alloc] at hc3 hf3
  have hz3 : w2.heap.size < w3.heap.size := by have := hb3.size; simp at this; omega
  go_wp2_with fail
  refine (HC.out _).mono ?_
  rintro e w4 ⟨rfl, hb4⟩
  obtain ⟨hc4, hf4⟩ := bcell hb4
  simp only [World.size_alloc] at hc4 hf4
  have hz4 : w3.heap.size < w4.heap.size := by have := hb4.size; simp at this; omega
  have hz5 : w2.heap.size < w4.heap.size := by omega
  have hz6 : w2.heap.size < w3.heap.size + 1 := by omega
  go_wp2
  go_ret
  refine ⟨rfl, ?_⟩
  obtain ⟨k, k2, k4⟩ := below_chain hb1 hb2 hb3 hb4
  exact (k.setCell k2 _).alloc (by simpa using k4) _

set_option maxHeartbeats 2000000 in
theorem next_B (t y m d h mi wk yb mb db hb wkb : Int) (w : World) (h0 : 0 ≤ t) (h1 : t ≤ 4102358399) (hd1 : 1 ≤ d) (hd2 : d ≤ 31) (hm0 : 0 ≤ mi) (hm1 : mi ≤ 59) (hk0 : 0 ≤ wk) (hk1 : wk ≤ 6)
    (HA : Hid (CivilIs t y m d h mi 59 wk)) (HB : Hid (CivilIs (t + 1) yb mb db hb ((mi + 1) % 60) 0 wkb)) (HC : Hid (CivilIs (t + 86400) y m (d + 1) h mi 59 ((wk + 1) % 7))) :
    Calls Tryd.prog 6 #[.int .i64 t] w fun e w' => e = .returned (.bool true) ∧ Below w.heap.size w w' := by
  have g1 : (d + 1 != 1) = true := by rw [bne_iff_ne]; omega
  have g2 : (d + 1 == 1) = false := by rw [beq_eq_false_iff_ne]; omega
  go_enter Tryd.func6, Tryd.ntmps6
  go_wp2_with (go_at_call 7; refine (alive_yes _).mono ?_; rintro e w1 ⟨rfl, hb1⟩)
  refine (HA.out _).mono ?_
  rintro e w2 ⟨rfl, hb2⟩
  go_wp2_with fail
  refine (HB.out _).mono ?_
  rintro e w3 ⟨rfl, hb3⟩
  obtain ⟨hc3, hf3⟩ := bcell hb3
  simp only [World.size_alloc] at hc3 hf3
  have hz3 : w2.heap.size < w3.heap.size := by have := hb3.size; simp at this; omega
  go_wp2_with fail
  refine (HC.out _).mono ?_
  rintro e w4 ⟨rfl, hb4⟩
  obtain ⟨hc4, hf4⟩ := bcell hb4
  simp only [World.size_alloc] at hc4 hf4
  have hz4 : w3.heap.size < w4.heap.size := by have := hb4.size; simp at this; omega
  have hz5 : w2.heap.size < w4.heap.size := by omega
  have hz6 : w2.heap.size < w3.heap.size + 1 := by omega
  go_wp2
  go_quiet ((go_at_call 13; exact Calls.quiet_of_same (days_any _ _ _)))
  go_wp2
  go_ret
  obtain ⟨k, k2, k4⟩ := below_chain hb1 hb2 hb3 hb4
  exact ⟨rfl, below_drewN (k.alloc k4 _) _⟩
set_option maxHeartbeats 2000000 in
theorem next_C (t y m h mi wk yb mb db hb wkb yc mc : Int) (w : World) (h0 : 0 ≤ t) (h1 : t ≤ 4102358399) (hm0 : 0 ≤ mi) (hm1 : mi ≤ 59) (hk0 : 0 ≤ wk) (hk1 : wk ≤ 6)
    (HA : Hid (CivilIs t y m (Cal.dim y m) h mi 59 wk)) (HB : Hid (CivilIs (t + 1) yb mb db hb ((mi + 1) % 60) 0 wkb)) (HC : Hid (CivilIs (t + 86400) yc mc 1 h mi 59 ((wk + 1) % 7))) :
    Calls Tryd.prog 6 #[.int .i64 t] w fun e w' => e = .returned (.bool true) ∧ Below w.heap.size w w' := by
  go_enter Tryd.func6, Tryd.ntmps6
  go_wp2_with (go_at_call 7; refine (alive_yes _).mono ?_; rintro e w1 ⟨rfl, hb1⟩)
  refine (HA.out _).mono ?_
  rintro e w2 ⟨rfl, hb2⟩
  go_wp2_with fail
  refine (HB.out _).mono ?_
  rintro e w3 ⟨rfl, hb3⟩
  obtain ⟨hc3, hf3⟩ := bcell hb3
  simp only [World.size_alloc] at hc3 hf3
  have hz3 : w2.heap.size < w3.heap.size := by have := hb3.size; simp at this; omega
  go_wp2_with fail
  refine (HC.out _).mono ?_
  rintro e w4 ⟨rfl, hb4⟩
  obtain ⟨hc4, hf4⟩ := bcell hb4
  simp only [World.size_alloc] at hc4 hf4
  have hz4 : w3.heap.size < w4.heap.size := by have := hb4.size; simp at this; omega
  have hz5 : w2.heap.size < w4.heap.size := by omega
  have hz6 : w2.heap.size < w3.heap.size + 1 := by omega
  go_wp2
  go_quiet ((go_at_call 13; exact Calls.quiet_of_same (days_any _ _ _)))
  go_wp2
  go_ret
  obtain ⟨k, k2, k4⟩ := below_chain hb1 hb2 hb3 hb4
  exact ⟨rfl, below_drewN (k.alloc k4 _) _⟩

theorem civilIs (t : Int) (h0 : 0 ≤ t) (h1 : t ≤ 4102444799) : CivilIs t (Cal.cy (t / 86400)) (Cal.cm (t / 86400)) (Cal.cd (t / 86400)) (t % 86400 / 3600) (t % 3600 / 60) (t % 60) ((4 + t / 86400) % 7) :=
  fun w => civil_yes t w h0 h1
theorem CivilIs.of {t y m d h mi s wk y' m' d' h' mi' s' wk' : Int} (k : CivilIs t y m d h mi s wk) (e1 : y = y') (e2 : m = m') (e3 : d = d') (e4 : h = h') (e5 : mi = mi') (e6 : s = s') (e7 : wk = wk') : CivilIs t y' m' d' h' mi' s' wk' := by
  subst e1 e2 e3 e4 e5 e6 e7; exact k

theorem next_walk (t : Int) (w : World) :
    Calls Tryd.prog 6 #[.int .i64 t] w fun e w' => e = .returned (.bool true) ∧ Below w.heap.size w w' := by
  by_cases hr : 0 ≤ t ∧ t ≤ 4102358399
  · obtain ⟨h0, h1⟩ := hr
    have d1 : (t + 86400) / 86400 = t / 86400 + 1 := by omega
    have HA : Hid (CivilIs t _ _ _ _ _ _ _) := civilIs t h0 (by omega)
    have kB := civilIs (t + 1) (by omega) (by omega)
    have kC := civilIs (t + 86400) (by omega) (by omega)
    obtain ⟨y1, y2, m1, m2, k1, k2, _⟩ := Cal.date_spec (t / 86400) (by omega) (by omega)
    have dr := Cal.dim_range (Cal.cy (t / 86400)) (Cal.cm (t / 86400))
    by_cases hs : t % 60 < 59
    · have e : (t + 1) / 86400 = t / 86400 := by omega
      refine next_A t _ _ _ _ _ _ _ (Cal.cy ((t + 86400) / 86400)) (Cal.cm ((t + 86400) / 86400)) (Cal.cd ((t + 86400) / 86400)) w h0 h1 (by omega) hs (by omega) (by omega) HA ?_ ?_
      · exact kB.of (by rw [e]) (by rw [e]) (by rw [e]) (by omega) (by omega) (by omega) (by omega)
      · exact kC.of rfl rfl rfl (by omega) (by omega) (by omega) (by omega)
    · have hs' : t % 60 = 59 := by omega
      rcases Cal.next_day (t / 86400) (by omega) (by omega) with ⟨a, b, c⟩ | ⟨a, b⟩
      · refine next_B t (Cal.cy (t / 86400)) (Cal.cm (t / 86400)) (Cal.cd (t / 86400)) (t % 86400 / 3600) (t % 3600 / 60) ((4 + t / 86400) % 7) _ _ _ _ _ w h0 h1 k1 (by omega) (by omega) (by omega) (by omega) (by omega) ?_ (kB.of rfl rfl rfl rfl ?_ ?_ rfl) ?_
        · exact HA.out.of rfl rfl rfl rfl rfl hs' rfl
        · omega
        · omega
        · exact kC.of (by rw [d1, c]) (by rw [d1, b]) (by rw [d1, a]) (by omega) (by omega) (by omega) (by omega)
      · refine next_C t (Cal.cy (t / 86400)) (Cal.cm (t / 86400)) (t % 86400 / 3600) (t % 3600 / 60) ((4 + t / 86400) % 7) _ _ _ _ _ (Cal.cy ((t + 86400) / 86400)) (Cal.cm ((t + 86400) / 86400)) w h0 h1 (by omega) (by omega) (by omega) (by omega) ?_ (kB.of rfl rfl rfl rfl ?_ ?_ rfl) ?_
        · exact HA.out.of rfl rfl b rfl rfl hs' rfl
        · omega
        · omega
        · exact kC.of rfl rfl (by rw [d1, a]) (by omega) (by omega) (by omega) (by omega)
  · exact next_out t w (by omega)
end Go.Proofs.YtjddeaeanomdhabDoor
