/- The reader of package dates: names. -/
import Derived.Test.YtjddeaeanomdhabDoorRd2
import Derived.Test.YtjddeaeanomdhabDoorPieces
import Derived.Test.YtjddeaeanomdhabDoorCalm
import Derived.Deep.QuietTactic
import Derived.BigQuiet
namespace Go.Proofs.YtjddeaeanomdhabDoor
open Go.RowKit

/-- Does x begin with p? -/
def isPre (x p : List UInt8) : Bool := Lib.hasPrefix x p
theorem hasPrefix_list (x p : List UInt8) (w : World) : Calls Tryd.prog 77 #[.string ⟨x.toArray⟩, .string ⟨p.toArray⟩] w fun e w' => e = .returned (.bool (isPre x p)) ∧ w' = w := by
  unfold isPre
  simpa using Tryd.strings_HasPrefix ⟨x.toArray⟩ ⟨p.toArray⟩ w

set_option maxHeartbeats 2000000 in
theorem nameAt_mon (k : Nat) (hk : k < 12) (w : World) :
    Calls Tryd.prog 75 #[.string ⟨#[74, 97, 110, 70, 101, 98, 77, 97, 114, 65, 112, 114, 77, 97, 121, 74, 117, 110, 74, 117, 108, 65, 117, 103, 83, 101, 112, 79, 99, 116, 78, 111, 118, 68, 101, 99]⟩, .int .i64 k] w fun e w' => e = .returned (.string ⟨(mon (k + 1 : Int)).toArray⟩) ∧ w' = w := by
  have hm : k = 0 ∨ k = 1 ∨ k = 2 ∨ k = 3 ∨ k = 4 ∨ k = 5 ∨ k = 6 ∨ k = 7 ∨ k = 8 ∨ k = 9 ∨ k = 10 ∨ k = 11 := by omega
  clear hk
  rcases hm with rfl | rfl | rfl | rfl | rfl | rfl | rfl | rfl | rfl | rfl | rfl | rfl
  all_goals
    go_enter Tryd.func75, Tryd.ntmps75
    go_wp2
    go_ret
    exact ⟨by kernel_rfl, rfl⟩
theorem pre_mon (j k : Nat) (r : List UInt8) (hj : j < 12) (hk : k < 12) : isPre (mon (j + 1 : Int) ++ r) (mon (k + 1 : Int)) = decide (j = k) := by
  have hm : j = 0 ∨ j = 1 ∨ j = 2 ∨ j = 3 ∨ j = 4 ∨ j = 5 ∨ j = 6 ∨ j = 7 ∨ j = 8 ∨ j = 9 ∨ j = 10 ∨ j = 11 := by omega
  have hn : k = 0 ∨ k = 1 ∨ k = 2 ∨ k = 3 ∨ k = 4 ∨ k = 5 ∨ k = 6 ∨ k = 7 ∨ k = 8 ∨ k = 9 ∨ k = 10 ∨ k = 11 := by omega
  clear hj hk
  rcases hm with rfl | rfl | rfl | rfl | rfl | rfl | rfl | rfl | rfl | rfl | rfl | rfl <;> rcases hn with rfl | rfl | rfl | rfl | rfl | rfl | rfl | rfl | rfl | rfl | rfl | rfl <;> rfl
theorem three_mon (j : Nat) (hj : j < 12) : ∃ c0 c1 c2, mon (j + 1 : Int) = [c0, c1, c2] := by
  have hm : j = 0 ∨ j = 1 ∨ j = 2 ∨ j = 3 ∨ j = 4 ∨ j = 5 ∨ j = 6 ∨ j = 7 ∨ j = 8 ∨ j = 9 ∨ j = 10 ∨ j = 11 := by omega
  clear hj
  rcases hm with rfl | rfl | rfl | rfl | rfl | rfl | rfl | rfl | rfl | rfl | rfl | rfl <;> exact ⟨_, _, _, rfl⟩

set_option maxHeartbeats 1000000 in
theorem name_mon (j : Nat) (hj : j < 12) (b : Nat) (r : List UInt8) (y m d h mi s wk a : Int) (w : World) (k : Rd w b (mon (j + 1 : Int) ++ r) y m d h mi s wk a) (hl : r.length ≤ 900) :
    Calls Tryd.prog 65 #[.pointer (some ⟨b, 0, none⟩), .string ⟨#[74, 97, 110, 70, 101, 98, 77, 97, 114, 65, 112, 114, 77, 97, 121, 74, 117, 110, 74, 117, 108, 65, 117, 103, 83, 101, 112, 79, 99, 116, 78, 111, 118, 68, 101, 99]⟩] w fun e w' => e = .returned (.int .i64 j) ∧ Mv b w w' ∧ Rd w' b r y m d h mi s wk a := by
  obtain ⟨c0, c1, c2, e3⟩ := three_mon j hj
  have K : Hid (Rd w b (c0 :: c1 :: c2 :: r) y m d h mi s wk a) := by rw [e3] at k; exact k
  have HP : Hid (∀ i : Nat, i < 12 → isPre (c0 :: c1 :: c2 :: r) (mon (i + 1 : Int)) = decide (j = i)) := fun i hi => by have := pre_mon j i r hj hi; rw [e3] at this; exact this
  clear e3 k
  go_enter Tryd.func65, Tryd.ntmps65
  go_wp2
  go_loopw [9] (fun v wr => ∃ i : Nat, i ≤ j ∧ v = .int .i64 i ∧ Hid (Mv b w wr) ∧ Hid (Rd wr b (c0 :: c1 :: c2 :: r) y m d h mi s wk a)) (fun v _ => 12 - (intOf v).toNat)
  case atStart => exact ⟨0, Nat.zero_le _, rfl, Mv.refl _ _, K⟩
  case round =>
    obtain ⟨i, hi, rfl, HM, HK⟩ := hrel
    have hc0 := Blk.cell HK.out
    unfold rdr at hc0
    have hz := Blk.lt HK.out
    have hn := ext_some wr
    have hc := ext_cell wr
    have hi12 : i < 12 := by omega
    have hp := HP.out i hi12
    by_cases hij : j = i
    · subst hij
      rw [decide_eq_true rfl] at hp
      go_wp2
      refine wp_region_ext (by kernel_rfl) (by kernel_rfl) ?_
      repeat (go_big_quiet_step (first | (go_at_call 75; exact ext_same (nameAt_mon j hj _)) | (go_at_call 77; exact ext_same (hasPrefix_list _ _ _))))
      refine wpQuiet_nil ?_
      rintro w1 ⟨⟨_, hb1⟩, rfl⟩
      have HM1 : Hid (Mv b w w1) := HM.out.trans (Mv.of_below hb1)
      have HK1 : Hid (Rd w1 b (c0 :: c1 :: c2 :: r) y m d h mi s wk a) := Blk.below HK.out hb1 hz
      clear hn hc hc0 hb1
      simp only [hp]
      clear hp
      go_wp2_with (go_at_call 64; refine (skip3 b c0 r y m d h mi s wk a _ c1 c2 HK1.out (by omega)).mono ?_; rintro e w2 ⟨rfl, hm2, hr2⟩)
      go_ret
      exact ⟨rfl, HM1.out.trans hm2, hr2⟩
    · rw [decide_eq_false hij] at hp
      go_wp2
      refine wp_region_ext (by kernel_rfl) (by kernel_rfl) ?_
      repeat (go_big_quiet_step (first | (go_at_call 75; exact ext_same (nameAt_mon i hi12 _)) | (go_at_call 77; exact ext_same (hasPrefix_list _ _ _))))
      refine wpQuiet_nil ?_
      rintro w1 ⟨⟨_, hb1⟩, rfl⟩
      have HM1 : Hid (Mv b w w1) := HM.out.trans (Mv.of_below hb1)
      have HK1 : Hid (Rd w1 b (c0 :: c1 :: c2 :: r) y m d h mi s wk a) := Blk.below HK.out hb1 hz
      clear hn hc hc0 hb1
      simp only [hp]
      clear hp
      go_wp2
      go_roundw
      case rel => exact ⟨i + 1, by omega, by go_num, HM1, HK1⟩
      case measure => simp [intOf]; omega

set_option maxHeartbeats 2000000 in
theorem nameAt_wkd (k : Nat) (hk : k < 7) (w : World) :
    Calls Tryd.prog 75 #[.string ⟨#[83, 117, 110, 77, 111, 110, 84, 117, 101, 87, 101, 100, 84, 104, 117, 70, 114, 105, 83, 97, 116]⟩, .int .i64 k] w fun e w' => e = .returned (.string ⟨(wkd (k : Int)).toArray⟩) ∧ w' = w := by
  have hm : k = 0 ∨ k = 1 ∨ k = 2 ∨ k = 3 ∨ k = 4 ∨ k = 5 ∨ k = 6 := by omega
  clear hk
  rcases hm with rfl | rfl | rfl | rfl | rfl | rfl | rfl
  all_goals
    go_enter Tryd.func75, Tryd.ntmps75
    go_wp2
    go_ret
    exact ⟨by kernel_rfl, rfl⟩
theorem pre_wkd (j k : Nat) (r : List UInt8) (hj : j < 7) (hk : k < 7) : isPre (wkd (j : Int) ++ r) (wkd (k : Int)) = decide (j = k) := by
  have hm : j = 0 ∨ j = 1 ∨ j = 2 ∨ j = 3 ∨ j = 4 ∨ j = 5 ∨ j = 6 := by omega
  have hn : k = 0 ∨ k = 1 ∨ k = 2 ∨ k = 3 ∨ k = 4 ∨ k = 5 ∨ k = 6 := by omega
  clear hj hk
  rcases hm with rfl | rfl | rfl | rfl | rfl | rfl | rfl <;> rcases hn with rfl | rfl | rfl | rfl | rfl | rfl | rfl <;> rfl
theorem three_wkd (j : Nat) (hj : j < 7) : ∃ c0 c1 c2, wkd (j : Int) = [c0, c1, c2] := by
  have hm : j = 0 ∨ j = 1 ∨ j = 2 ∨ j = 3 ∨ j = 4 ∨ j = 5 ∨ j = 6 := by omega
  clear hj
  rcases hm with rfl | rfl | rfl | rfl | rfl | rfl | rfl <;> exact ⟨_, _, _, rfl⟩

set_option maxHeartbeats 1000000 in
theorem name_wkd (j : Nat) (hj : j < 7) (b : Nat) (r : List UInt8) (y m d h mi s wk a : Int) (w : World) (k : Rd w b (wkd (j : Int) ++ r) y m d h mi s wk a) (hl : r.length ≤ 900) :
    Calls Tryd.prog 65 #[.pointer (some ⟨b, 0, none⟩), .string ⟨#[83, 117, 110, 77, 111, 110, 84, 117, 101, 87, 101, 100, 84, 104, 117, 70, 114, 105, 83, 97, 116]⟩] w fun e w' => e = .returned (.int .i64 j) ∧ Mv b w w' ∧ Rd w' b r y m d h mi s wk a := by
  obtain ⟨c0, c1, c2, e3⟩ := three_wkd j hj
  have K : Hid (Rd w b (c0 :: c1 :: c2 :: r) y m d h mi s wk a) := by rw [e3] at k; exact k
  have HP : Hid (∀ i : Nat, i < 7 → isPre (c0 :: c1 :: c2 :: r) (wkd (i : Int)) = decide (j = i)) := fun i hi => by have := pre_wkd j i r hj hi; rw [e3] at this; exact this
  clear e3 k
  go_enter Tryd.func65, Tryd.ntmps65
  go_wp2
  go_loopw [9] (fun v wr => ∃ i : Nat, i ≤ j ∧ v = .int .i64 i ∧ Hid (Mv b w wr) ∧ Hid (Rd wr b (c0 :: c1 :: c2 :: r) y m d h mi s wk a)) (fun v _ => 7 - (intOf v).toNat)
  case atStart => exact ⟨0, Nat.zero_le _, rfl, Mv.refl _ _, K⟩
  case round =>
    obtain ⟨i, hi, rfl, HM, HK⟩ := hrel
    have hc0 := Blk.cell HK.out
    unfold rdr at hc0
    have hz := Blk.lt HK.out
    have hn := ext_some wr
    have hc := ext_cell wr
    have hi12 : i < 7 := by omega
    have hp := HP.out i hi12
    by_cases hij : j = i
    · subst hij
      rw [decide_eq_true rfl] at hp
      go_wp2
      refine wp_region_ext (by kernel_rfl) (by kernel_rfl) ?_
      repeat (go_big_quiet_step (first | (go_at_call 75; exact ext_same (nameAt_wkd j hj _)) | (go_at_call 77; exact ext_same (hasPrefix_list _ _ _))))
      refine wpQuiet_nil ?_
      rintro w1 ⟨⟨_, hb1⟩, rfl⟩
      have HM1 : Hid (Mv b w w1) := HM.out.trans (Mv.of_below hb1)
      have HK1 : Hid (Rd w1 b (c0 :: c1 :: c2 :: r) y m d h mi s wk a) := Blk.below HK.out hb1 hz
      clear hn hc hc0 hb1
      simp only [hp]
      clear hp
      go_wp2_with (go_at_call 64; refine (skip3 b c0 r y m d h mi s wk a _ c1 c2 HK1.out (by omega)).mono ?_; rintro e w2 ⟨rfl, hm2, hr2⟩)
      go_ret
      exact ⟨rfl, HM1.out.trans hm2, hr2⟩
    · rw [decide_eq_false hij] at hp
      go_wp2
      refine wp_region_ext (by kernel_rfl) (by kernel_rfl) ?_
      repeat (go_big_quiet_step (first | (go_at_call 75; exact ext_same (nameAt_wkd i hi12 _)) | (go_at_call 77; exact ext_same (hasPrefix_list _ _ _))))
      refine wpQuiet_nil ?_
      rintro w1 ⟨⟨_, hb1⟩, rfl⟩
      have HM1 : Hid (Mv b w w1) := HM.out.trans (Mv.of_below hb1)
      have HK1 : Hid (Rd w1 b (c0 :: c1 :: c2 :: r) y m d h mi s wk a) := Blk.below HK.out hb1 hz
      clear hn hc hc0 hb1
      simp only [hp]
      clear hp
      go_wp2
      go_roundw
      case rel => exact ⟨i + 1, by omega, by go_num, HM1, HK1⟩
      case measure => simp [intOf]; omega

end Go.Proofs.YtjddeaeanomdhabDoor
