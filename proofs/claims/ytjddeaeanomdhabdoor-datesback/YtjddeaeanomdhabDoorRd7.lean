/- The reader of package dates: the three forms, read whole. -/
import Derived.Test.YtjddeaeanomdhabDoorRd6
namespace Go.Proofs.YtjddeaeanomdhabDoor
open Go.RowKit

set_option maxHeartbeats 1000000 in
theorem pday1 (b : Nat) (n : Nat) (hn : n < 10) (j : Nat) (hj : j < 12) (y1 y2 y3 y4 Y : Nat) (v1 : y1 < 10) (v2 : y2 < 10) (v3 : y3 < 10) (v4 : y4 < 10) (vy : Hid (((y1 * 10 + y2) * 10 + y3) * 10 + y4 = Y)) (w : World) (k : Rd w b (dg n :: 45 :: (mon (j + 1 : Int) ++ 45 :: dg y1 :: dg y2 :: dg y3 :: dg y4 :: [])) 0 0 0 0 0 0 0 0) :
    Calls Tryd.prog 59 #[.pointer (some ⟨b, 0, none⟩)] w fun e w' => e = .returned (.tuple #[]) ∧ Mv b w w' ∧ Rd w' b [] Y (j + 1) n 0 0 0 0 0 := by
  have HR0 : Hid (Rd w b (dg n :: 45 :: (mon (j + 1 : Int) ++ 45 :: dg y1 :: dg y2 :: dg y3 :: dg y4 :: [])) 0 0 0 0 0 0 0 0) := k
  clear k
  go_enter Tryd.func59, Tryd.ntmps59
  go_wp2_with fail
  refine (day1_ok b (mon (j + 1 : Int) ++ 45 :: dg y1 :: dg y2 :: dg y3 :: dg y4 :: []) 0 0 0 0 0 0 0 0 _ n hn 45 (by decide) HR0.out (by have := mon_len (j + 1 : Int); simp; omega)).mono ?_
  rintro e w1 ⟨rfl, hm1, hr1⟩
  have HR1 : Hid (Rd w1 b (45 :: (mon (j + 1 : Int) ++ 45 :: dg y1 :: dg y2 :: dg y3 :: dg y4 :: [])) 0 0 n 0 0 0 0 0) := hr1
  have HM1 : Hid (Mv b w w1) := hm1
  clear hm1 hr1
  go_wp2_with fail
  refine (mark_ok b 45 (mon (j + 1 : Int) ++ 45 :: dg y1 :: dg y2 :: dg y3 :: dg y4 :: []) 0 0 n 0 0 0 0 0 _ HR1.out (by have := mon_len (j + 1 : Int); simp; omega)).mono ?_
  rintro e w2 ⟨rfl, hm2, hr2⟩
  have HR2 : Hid (Rd w2 b (mon (j + 1 : Int) ++ 45 :: dg y1 :: dg y2 :: dg y3 :: dg y4 :: []) 0 0 n 0 0 0 0 0) := hr2
  have HM2 : Hid (Mv b w w2) := HM1.out.trans hm2
  clear hm2 hr2
  go_wp2_with fail
  refine (month_ok b (45 :: dg y1 :: dg y2 :: dg y3 :: dg y4 :: []) 0 0 n 0 0 0 0 0 _ j hj HR2.out (by simp)).mono ?_
  rintro e w3 ⟨rfl, hm3, hr3⟩
  have HR3 : Hid (Rd w3 b (45 :: dg y1 :: dg y2 :: dg y3 :: dg y4 :: []) 0 (j + 1) n 0 0 0 0 0) := hr3
  have HM3 : Hid (Mv b w w3) := HM2.out.trans hm3
  clear hm3 hr3
  go_wp2_with fail
  refine (mark_ok b 45 (dg y1 :: dg y2 :: dg y3 :: dg y4 :: []) 0 (j + 1) n 0 0 0 0 0 _ HR3.out (by simp)).mono ?_
  rintro e w4 ⟨rfl, hm4, hr4⟩
  have HR4 : Hid (Rd w4 b (dg y1 :: dg y2 :: dg y3 :: dg y4 :: []) 0 (j + 1) n 0 0 0 0 0) := hr4
  have HM4 : Hid (Mv b w w4) := HM3.out.trans hm4
  clear hm4 hr4
  go_wp2_with fail
  refine (year_ok b [] 0 (j + 1) n 0 0 0 0 0 _ y1 y2 y3 y4 Y v1 v2 v3 v4 vy HR4.out (by simp)).mono ?_
  rintro e w5 ⟨rfl, hm5, hr5⟩
  have HR5 : Hid (Rd w5 b ([]) Y (j + 1) n 0 0 0 0 0) := hr5
  have HM5 : Hid (Mv b w w5) := HM4.out.trans hm5
  clear hm5 hr5
  go_wp2
  go_end0
  exact ⟨rfl, HM5.out, HR5.out⟩

set_option maxHeartbeats 1000000 in
theorem pday2 (b : Nat) (p q n : Nat) (hp : p < 10) (hq : q < 10) (hn : Hid ((p : Int) * 10 + q = n)) (j : Nat) (hj : j < 12) (y1 y2 y3 y4 Y : Nat) (v1 : y1 < 10) (v2 : y2 < 10) (v3 : y3 < 10) (v4 : y4 < 10) (vy : Hid (((y1 * 10 + y2) * 10 + y3) * 10 + y4 = Y)) (w : World) (k : Rd w b (dg p :: dg q :: 45 :: (mon (j + 1 : Int) ++ 45 :: dg y1 :: dg y2 :: dg y3 :: dg y4 :: [])) 0 0 0 0 0 0 0 0) :
    Calls Tryd.prog 59 #[.pointer (some ⟨b, 0, none⟩)] w fun e w' => e = .returned (.tuple #[]) ∧ Mv b w w' ∧ Rd w' b [] Y (j + 1) n 0 0 0 0 0 := by
  have HR0 : Hid (Rd w b (dg p :: dg q :: 45 :: (mon (j + 1 : Int) ++ 45 :: dg y1 :: dg y2 :: dg y3 :: dg y4 :: [])) 0 0 0 0 0 0 0 0) := k
  clear k
  go_enter Tryd.func59, Tryd.ntmps59
  go_wp2_with fail
  refine (day2_ok b (45 :: (mon (j + 1 : Int) ++ 45 :: dg y1 :: dg y2 :: dg y3 :: dg y4 :: [])) 0 0 0 0 0 0 0 0 _ p q n hp hq hn HR0.out (by have := mon_len (j + 1 : Int); simp; omega)).mono ?_
  rintro e w1 ⟨rfl, hm1, hr1⟩
  have HR1 : Hid (Rd w1 b (45 :: (mon (j + 1 : Int) ++ 45 :: dg y1 :: dg y2 :: dg y3 :: dg y4 :: [])) 0 0 n 0 0 0 0 0) := hr1
  have HM1 : Hid (Mv b w w1) := hm1
  clear hm1 hr1
  go_wp2_with fail
  refine (mark_ok b 45 (mon (j + 1 : Int) ++ 45 :: dg y1 :: dg y2 :: dg y3 :: dg y4 :: []) 0 0 n 0 0 0 0 0 _ HR1.out (by have := mon_len (j + 1 : Int); simp; omega)).mono ?_
  rintro e w2 ⟨rfl, hm2, hr2⟩
  have HR2 : Hid (Rd w2 b (mon (j + 1 : Int) ++ 45 :: dg y1 :: dg y2 :: dg y3 :: dg y4 :: []) 0 0 n 0 0 0 0 0) := hr2
  have HM2 : Hid (Mv b w w2) := HM1.out.trans hm2
  clear hm2 hr2
  go_wp2_with fail
  refine (month_ok b (45 :: dg y1 :: dg y2 :: dg y3 :: dg y4 :: []) 0 0 n 0 0 0 0 0 _ j hj HR2.out (by simp)).mono ?_
  rintro e w3 ⟨rfl, hm3, hr3⟩
  have HR3 : Hid (Rd w3 b (45 :: dg y1 :: dg y2 :: dg y3 :: dg y4 :: []) 0 (j + 1) n 0 0 0 0 0) := hr3
  have HM3 : Hid (Mv b w w3) := HM2.out.trans hm3
  clear hm3 hr3
  go_wp2_with fail
  refine (mark_ok b 45 (dg y1 :: dg y2 :: dg y3 :: dg y4 :: []) 0 (j + 1) n 0 0 0 0 0 _ HR3.out (by simp)).mono ?_
  rintro e w4 ⟨rfl, hm4, hr4⟩
  have HR4 : Hid (Rd w4 b (dg y1 :: dg y2 :: dg y3 :: dg y4 :: []) 0 (j + 1) n 0 0 0 0 0) := hr4
  have HM4 : Hid (Mv b w w4) := HM3.out.trans hm4
  clear hm4 hr4
  go_wp2_with fail
  refine (year_ok b [] 0 (j + 1) n 0 0 0 0 0 _ y1 y2 y3 y4 Y v1 v2 v3 v4 vy HR4.out (by simp)).mono ?_
  rintro e w5 ⟨rfl, hm5, hr5⟩
  have HR5 : Hid (Rd w5 b ([]) Y (j + 1) n 0 0 0 0 0) := hr5
  have HM5 : Hid (Mv b w w5) := HM4.out.trans hm5
  clear hm5 hr5
  go_wp2
  go_end0
  exact ⟨rfl, HM5.out, HR5.out⟩

set_option maxHeartbeats 2000000 in
theorem pint1 (b : Nat) (n : Nat) (hn : n < 10) (j : Nat) (hj : j < 12) (y1 y2 y3 y4 Y : Nat) (v1 : y1 < 10) (v2 : y2 < 10) (v3 : y3 < 10) (v4 : y4 < 10) (vy : Hid (((y1 * 10 + y2) * 10 + y3) * 10 + y4 = Y)) (h1 h2 i1 i2 s1 s2 hh ii ss : Nat) (u1 : h1 < 10) (u2 : h2 < 10) (u3 : i1 < 10) (u4 : i2 < 10) (u5 : s1 < 10) (u6 : s2 < 10) (vh : Hid (h1 * 10 + h2 = hh)) (vi : Hid (i1 * 10 + i2 = ii)) (vs : Hid (s1 * 10 + s2 = ss)) (w : World) (k : Rd w b (32 :: dg n :: 45 :: (mon (j + 1 : Int) ++ 45 :: dg y1 :: dg y2 :: dg y3 :: dg y4 :: 32 :: dg h1 :: dg h2 :: 58 :: dg i1 :: dg i2 :: 58 :: dg s1 :: dg s2 :: 32 :: 43 :: dg 0 :: dg 0 :: dg 0 :: dg 0 :: [])) 0 0 0 0 0 0 0 0) :
    Calls Tryd.prog 52 #[.pointer (some ⟨b, 0, none⟩)] w fun e w' => e = .returned (.tuple #[]) ∧ Mv b w w' ∧ Rd w' b [] Y (j + 1) n hh ii ss 0 0 := by
  have HR0 : Hid (Rd w b (32 :: dg n :: 45 :: (mon (j + 1 : Int) ++ 45 :: dg y1 :: dg y2 :: dg y3 :: dg y4 :: 32 :: dg h1 :: dg h2 :: 58 :: dg i1 :: dg i2 :: 58 :: dg s1 :: dg s2 :: 32 :: 43 :: dg 0 :: dg 0 :: dg 0 :: dg 0 :: [])) 0 0 0 0 0 0 0 0) := k
  clear k
  go_enter Tryd.func52, Tryd.ntmps52
  go_wp2_with fail
  refine (dayB_ok b (45 :: (mon (j + 1 : Int) ++ 45 :: dg y1 :: dg y2 :: dg y3 :: dg y4 :: 32 :: dg h1 :: dg h2 :: 58 :: dg i1 :: dg i2 :: 58 :: dg s1 :: dg s2 :: 32 :: 43 :: dg 0 :: dg 0 :: dg 0 :: dg 0 :: [])) 0 0 0 0 0 0 0 0 _ n hn HR0.out (by have := mon_len (j + 1 : Int); simp; omega)).mono ?_
  rintro e w1 ⟨rfl, hm1, hr1⟩
  have HR1 : Hid (Rd w1 b (45 :: (mon (j + 1 : Int) ++ 45 :: dg y1 :: dg y2 :: dg y3 :: dg y4 :: 32 :: dg h1 :: dg h2 :: 58 :: dg i1 :: dg i2 :: 58 :: dg s1 :: dg s2 :: 32 :: 43 :: dg 0 :: dg 0 :: dg 0 :: dg 0 :: [])) 0 0 n 0 0 0 0 0) := hr1
  have HM1 : Hid (Mv b w w1) := hm1
  clear hm1 hr1
  go_wp2_with fail
  refine (mark_ok b 45 (mon (j + 1 : Int) ++ 45 :: dg y1 :: dg y2 :: dg y3 :: dg y4 :: 32 :: dg h1 :: dg h2 :: 58 :: dg i1 :: dg i2 :: 58 :: dg s1 :: dg s2 :: 32 :: 43 :: dg 0 :: dg 0 :: dg 0 :: dg 0 :: []) 0 0 n 0 0 0 0 0 _ HR1.out (by have := mon_len (j + 1 : Int); simp; omega)).mono ?_
  rintro e w2 ⟨rfl, hm2, hr2⟩
  have HR2 : Hid (Rd w2 b (mon (j + 1 : Int) ++ 45 :: dg y1 :: dg y2 :: dg y3 :: dg y4 :: 32 :: dg h1 :: dg h2 :: 58 :: dg i1 :: dg i2 :: 58 :: dg s1 :: dg s2 :: 32 :: 43 :: dg 0 :: dg 0 :: dg 0 :: dg 0 :: []) 0 0 n 0 0 0 0 0) := hr2
  have HM2 : Hid (Mv b w w2) := HM1.out.trans hm2
  clear hm2 hr2
  go_wp2_with fail
  refine (month_ok b (45 :: dg y1 :: dg y2 :: dg y3 :: dg y4 :: 32 :: dg h1 :: dg h2 :: 58 :: dg i1 :: dg i2 :: 58 :: dg s1 :: dg s2 :: 32 :: 43 :: dg 0 :: dg 0 :: dg 0 :: dg 0 :: []) 0 0 n 0 0 0 0 0 _ j hj HR2.out (by simp)).mono ?_
  rintro e w3 ⟨rfl, hm3, hr3⟩
  have HR3 : Hid (Rd w3 b (45 :: dg y1 :: dg y2 :: dg y3 :: dg y4 :: 32 :: dg h1 :: dg h2 :: 58 :: dg i1 :: dg i2 :: 58 :: dg s1 :: dg s2 :: 32 :: 43 :: dg 0 :: dg 0 :: dg 0 :: dg 0 :: []) 0 (j + 1) n 0 0 0 0 0) := hr3
  have HM3 : Hid (Mv b w w3) := HM2.out.trans hm3
  clear hm3 hr3
  go_wp2_with fail
  refine (mark_ok b 45 (dg y1 :: dg y2 :: dg y3 :: dg y4 :: 32 :: dg h1 :: dg h2 :: 58 :: dg i1 :: dg i2 :: 58 :: dg s1 :: dg s2 :: 32 :: 43 :: dg 0 :: dg 0 :: dg 0 :: dg 0 :: []) 0 (j + 1) n 0 0 0 0 0 _ HR3.out (by simp)).mono ?_
  rintro e w4 ⟨rfl, hm4, hr4⟩
  have HR4 : Hid (Rd w4 b (dg y1 :: dg y2 :: dg y3 :: dg y4 :: 32 :: dg h1 :: dg h2 :: 58 :: dg i1 :: dg i2 :: 58 :: dg s1 :: dg s2 :: 32 :: 43 :: dg 0 :: dg 0 :: dg 0 :: dg 0 :: []) 0 (j + 1) n 0 0 0 0 0) := hr4
  have HM4 : Hid (Mv b w w4) := HM3.out.trans hm4
  clear hm4 hr4
  go_wp2_with fail
  refine (year_ok b (32 :: dg h1 :: dg h2 :: 58 :: dg i1 :: dg i2 :: 58 :: dg s1 :: dg s2 :: 32 :: 43 :: dg 0 :: dg 0 :: dg 0 :: dg 0 :: []) 0 (j + 1) n 0 0 0 0 0 _ y1 y2 y3 y4 Y v1 v2 v3 v4 vy HR4.out (by simp)).mono ?_
  rintro e w5 ⟨rfl, hm5, hr5⟩
  have HR5 : Hid (Rd w5 b (32 :: dg h1 :: dg h2 :: 58 :: dg i1 :: dg i2 :: 58 :: dg s1 :: dg s2 :: 32 :: 43 :: dg 0 :: dg 0 :: dg 0 :: dg 0 :: []) Y (j + 1) n 0 0 0 0 0) := hr5
  have HM5 : Hid (Mv b w w5) := HM4.out.trans hm5
  clear hm5 hr5
  go_wp2_with fail
  refine (mark_ok b 32 (dg h1 :: dg h2 :: 58 :: dg i1 :: dg i2 :: 58 :: dg s1 :: dg s2 :: 32 :: 43 :: dg 0 :: dg 0 :: dg 0 :: dg 0 :: []) Y (j + 1) n 0 0 0 0 0 _ HR5.out (by simp)).mono ?_
  rintro e w6 ⟨rfl, hm6, hr6⟩
  have HR6 : Hid (Rd w6 b (dg h1 :: dg h2 :: 58 :: dg i1 :: dg i2 :: 58 :: dg s1 :: dg s2 :: 32 :: 43 :: dg 0 :: dg 0 :: dg 0 :: dg 0 :: []) Y (j + 1) n 0 0 0 0 0) := hr6
  have HM6 : Hid (Mv b w w6) := HM5.out.trans hm6
  clear hm6 hr6
  go_wp2_with fail
  refine (hm_ok b (58 :: dg s1 :: dg s2 :: 32 :: 43 :: dg 0 :: dg 0 :: dg 0 :: dg 0 :: []) Y (j + 1) n 0 0 0 0 0 _ h1 h2 i1 i2 hh ii u1 u2 u3 u4 vh vi HR6.out (by simp)).mono ?_
  rintro e w7 ⟨rfl, hm7, hr7⟩
  have HR7 : Hid (Rd w7 b (58 :: dg s1 :: dg s2 :: 32 :: 43 :: dg 0 :: dg 0 :: dg 0 :: dg 0 :: []) Y (j + 1) n hh ii 0 0 0) := hr7
  have HM7 : Hid (Mv b w w7) := HM6.out.trans hm7
  clear hm7 hr7
  go_wp2_with fail
  refine (second_ok b (32 :: 43 :: dg 0 :: dg 0 :: dg 0 :: dg 0 :: []) Y (j + 1) n hh ii 0 0 0 _ s1 s2 ss u5 u6 vs HR7.out (by simp)).mono ?_
  rintro e w8 ⟨rfl, hm8, hr8⟩
  have HR8 : Hid (Rd w8 b (32 :: 43 :: dg 0 :: dg 0 :: dg 0 :: dg 0 :: []) Y (j + 1) n hh ii ss 0 0) := hr8
  have HM8 : Hid (Mv b w w8) := HM7.out.trans hm8
  clear hm8 hr8
  go_wp2_with fail
  refine (mark_ok b 32 (43 :: dg 0 :: dg 0 :: dg 0 :: dg 0 :: []) Y (j + 1) n hh ii ss 0 0 _ HR8.out (by simp)).mono ?_
  rintro e w9 ⟨rfl, hm9, hr9⟩
  have HR9 : Hid (Rd w9 b (43 :: dg 0 :: dg 0 :: dg 0 :: dg 0 :: []) Y (j + 1) n hh ii ss 0 0) := hr9
  have HM9 : Hid (Mv b w w9) := HM8.out.trans hm9
  clear hm9 hr9
  go_wp2_with fail
  refine (zone_ok b [] Y (j + 1) n hh ii ss 0 0 _ HR9.out (by simp)).mono ?_
  rintro e w10 ⟨rfl, hm10, hr10⟩
  have HR10 : Hid (Rd w10 b ([]) Y (j + 1) n hh ii ss 0 0) := hr10
  have HM10 : Hid (Mv b w w10) := HM9.out.trans hm10
  clear hm10 hr10
  go_wp2
  go_end0
  exact ⟨rfl, HM10.out, HR10.out⟩

set_option maxHeartbeats 2000000 in
theorem pint2 (b : Nat) (p q n : Nat) (hp : p < 10) (hq : q < 10) (hp1 : 1 ≤ p) (hn : Hid (p * 10 + q = n)) (j : Nat) (hj : j < 12) (y1 y2 y3 y4 Y : Nat) (v1 : y1 < 10) (v2 : y2 < 10) (v3 : y3 < 10) (v4 : y4 < 10) (vy : Hid (((y1 * 10 + y2) * 10 + y3) * 10 + y4 = Y)) (h1 h2 i1 i2 s1 s2 hh ii ss : Nat) (u1 : h1 < 10) (u2 : h2 < 10) (u3 : i1 < 10) (u4 : i2 < 10) (u5 : s1 < 10) (u6 : s2 < 10) (vh : Hid (h1 * 10 + h2 = hh)) (vi : Hid (i1 * 10 + i2 = ii)) (vs : Hid (s1 * 10 + s2 = ss)) (w : World) (k : Rd w b (dg p :: dg q :: 45 :: (mon (j + 1 : Int) ++ 45 :: dg y1 :: dg y2 :: dg y3 :: dg y4 :: 32 :: dg h1 :: dg h2 :: 58 :: dg i1 :: dg i2 :: 58 :: dg s1 :: dg s2 :: 32 :: 43 :: dg 0 :: dg 0 :: dg 0 :: dg 0 :: [])) 0 0 0 0 0 0 0 0) :
    Calls Tryd.prog 52 #[.pointer (some ⟨b, 0, none⟩)] w fun e w' => e = .returned (.tuple #[]) ∧ Mv b w w' ∧ Rd w' b [] Y (j + 1) n hh ii ss 0 0 := by
  have HR0 : Hid (Rd w b (dg p :: dg q :: 45 :: (mon (j + 1 : Int) ++ 45 :: dg y1 :: dg y2 :: dg y3 :: dg y4 :: 32 :: dg h1 :: dg h2 :: 58 :: dg i1 :: dg i2 :: 58 :: dg s1 :: dg s2 :: 32 :: 43 :: dg 0 :: dg 0 :: dg 0 :: dg 0 :: [])) 0 0 0 0 0 0 0 0) := k
  clear k
  go_enter Tryd.func52, Tryd.ntmps52
  go_wp2_with fail
  refine (dayT_ok b (45 :: (mon (j + 1 : Int) ++ 45 :: dg y1 :: dg y2 :: dg y3 :: dg y4 :: 32 :: dg h1 :: dg h2 :: 58 :: dg i1 :: dg i2 :: 58 :: dg s1 :: dg s2 :: 32 :: 43 :: dg 0 :: dg 0 :: dg 0 :: dg 0 :: [])) 0 0 0 0 0 0 0 0 _ p q n hp hq hp1 hn HR0.out (by have := mon_len (j + 1 : Int); simp; omega)).mono ?_
  rintro e w1 ⟨rfl, hm1, hr1⟩
  have HR1 : Hid (Rd w1 b (45 :: (mon (j + 1 : Int) ++ 45 :: dg y1 :: dg y2 :: dg y3 :: dg y4 :: 32 :: dg h1 :: dg h2 :: 58 :: dg i1 :: dg i2 :: 58 :: dg s1 :: dg s2 :: 32 :: 43 :: dg 0 :: dg 0 :: dg 0 :: dg 0 :: [])) 0 0 n 0 0 0 0 0) := hr1
  have HM1 : Hid (Mv b w w1) := hm1
  clear hm1 hr1
  go_wp2_with fail
  refine (mark_ok b 45 (mon (j + 1 : Int) ++ 45 :: dg y1 :: dg y2 :: dg y3 :: dg y4 :: 32 :: dg h1 :: dg h2 :: 58 :: dg i1 :: dg i2 :: 58 :: dg s1 :: dg s2 :: 32 :: 43 :: dg 0 :: dg 0 :: dg 0 :: dg 0 :: []) 0 0 n 0 0 0 0 0 _ HR1.out (by have := mon_len (j + 1 : Int); simp; omega)).mono ?_
  rintro e w2 ⟨rfl, hm2, hr2⟩
  have HR2 : Hid (Rd w2 b (mon (j + 1 : Int) ++ 45 :: dg y1 :: dg y2 :: dg y3 :: dg y4 :: 32 :: dg h1 :: dg h2 :: 58 :: dg i1 :: dg i2 :: 58 :: dg s1 :: dg s2 :: 32 :: 43 :: dg 0 :: dg 0 :: dg 0 :: dg 0 :: []) 0 0 n 0 0 0 0 0) := hr2
  have HM2 : Hid (Mv b w w2) := HM1.out.trans hm2
  clear hm2 hr2
  go_wp2_with fail
  refine (month_ok b (45 :: dg y1 :: dg y2 :: dg y3 :: dg y4 :: 32 :: dg h1 :: dg h2 :: 58 :: dg i1 :: dg i2 :: 58 :: dg s1 :: dg s2 :: 32 :: 43 :: dg 0 :: dg 0 :: dg 0 :: dg 0 :: []) 0 0 n 0 0 0 0 0 _ j hj HR2.out (by simp)).mono ?_
  rintro e w3 ⟨rfl, hm3, hr3⟩
  have HR3 : Hid (Rd w3 b (45 :: dg y1 :: dg y2 :: dg y3 :: dg y4 :: 32 :: dg h1 :: dg h2 :: 58 :: dg i1 :: dg i2 :: 58 :: dg s1 :: dg s2 :: 32 :: 43 :: dg 0 :: dg 0 :: dg 0 :: dg 0 :: []) 0 (j + 1) n 0 0 0 0 0) := hr3
  have HM3 : Hid (Mv b w w3) := HM2.out.trans hm3
  clear hm3 hr3
  go_wp2_with fail
  refine (mark_ok b 45 (dg y1 :: dg y2 :: dg y3 :: dg y4 :: 32 :: dg h1 :: dg h2 :: 58 :: dg i1 :: dg i2 :: 58 :: dg s1 :: dg s2 :: 32 :: 43 :: dg 0 :: dg 0 :: dg 0 :: dg 0 :: []) 0 (j + 1) n 0 0 0 0 0 _ HR3.out (by simp)).mono ?_
  rintro e w4 ⟨rfl, hm4, hr4⟩
  have HR4 : Hid (Rd w4 b (dg y1 :: dg y2 :: dg y3 :: dg y4 :: 32 :: dg h1 :: dg h2 :: 58 :: dg i1 :: dg i2 :: 58 :: dg s1 :: dg s2 :: 32 :: 43 :: dg 0 :: dg 0 :: dg 0 :: dg 0 :: []) 0 (j + 1) n 0 0 0 0 0) := hr4
  have HM4 : Hid (Mv b w w4) := HM3.out.trans hm4
  clear hm4 hr4
  go_wp2_with fail
  refine (year_ok b (32 :: dg h1 :: dg h2 :: 58 :: dg i1 :: dg i2 :: 58 :: dg s1 :: dg s2 :: 32 :: 43 :: dg 0 :: dg 0 :: dg 0 :: dg 0 :: []) 0 (j + 1) n 0 0 0 0 0 _ y1 y2 y3 y4 Y v1 v2 v3 v4 vy HR4.out (by simp)).mono ?_
  rintro e w5 ⟨rfl, hm5, hr5⟩
  have HR5 : Hid (Rd w5 b (32 :: dg h1 :: dg h2 :: 58 :: dg i1 :: dg i2 :: 58 :: dg s1 :: dg s2 :: 32 :: 43 :: dg 0 :: dg 0 :: dg 0 :: dg 0 :: []) Y (j + 1) n 0 0 0 0 0) := hr5
  have HM5 : Hid (Mv b w w5) := HM4.out.trans hm5
  clear hm5 hr5
  go_wp2_with fail
  refine (mark_ok b 32 (dg h1 :: dg h2 :: 58 :: dg i1 :: dg i2 :: 58 :: dg s1 :: dg s2 :: 32 :: 43 :: dg 0 :: dg 0 :: dg 0 :: dg 0 :: []) Y (j + 1) n 0 0 0 0 0 _ HR5.out (by simp)).mono ?_
  rintro e w6 ⟨rfl, hm6, hr6⟩
  have HR6 : Hid (Rd w6 b (dg h1 :: dg h2 :: 58 :: dg i1 :: dg i2 :: 58 :: dg s1 :: dg s2 :: 32 :: 43 :: dg 0 :: dg 0 :: dg 0 :: dg 0 :: []) Y (j + 1) n 0 0 0 0 0) := hr6
  have HM6 : Hid (Mv b w w6) := HM5.out.trans hm6
  clear hm6 hr6
  go_wp2_with fail
  refine (hm_ok b (58 :: dg s1 :: dg s2 :: 32 :: 43 :: dg 0 :: dg 0 :: dg 0 :: dg 0 :: []) Y (j + 1) n 0 0 0 0 0 _ h1 h2 i1 i2 hh ii u1 u2 u3 u4 vh vi HR6.out (by simp)).mono ?_
  rintro e w7 ⟨rfl, hm7, hr7⟩
  have HR7 : Hid (Rd w7 b (58 :: dg s1 :: dg s2 :: 32 :: 43 :: dg 0 :: dg 0 :: dg 0 :: dg 0 :: []) Y (j + 1) n hh ii 0 0 0) := hr7
  have HM7 : Hid (Mv b w w7) := HM6.out.trans hm7
  clear hm7 hr7
  go_wp2_with fail
  refine (second_ok b (32 :: 43 :: dg 0 :: dg 0 :: dg 0 :: dg 0 :: []) Y (j + 1) n hh ii 0 0 0 _ s1 s2 ss u5 u6 vs HR7.out (by simp)).mono ?_
  rintro e w8 ⟨rfl, hm8, hr8⟩
  have HR8 : Hid (Rd w8 b (32 :: 43 :: dg 0 :: dg 0 :: dg 0 :: dg 0 :: []) Y (j + 1) n hh ii ss 0 0) := hr8
  have HM8 : Hid (Mv b w w8) := HM7.out.trans hm8
  clear hm8 hr8
  go_wp2_with fail
  refine (mark_ok b 32 (43 :: dg 0 :: dg 0 :: dg 0 :: dg 0 :: []) Y (j + 1) n hh ii ss 0 0 _ HR8.out (by simp)).mono ?_
  rintro e w9 ⟨rfl, hm9, hr9⟩
  have HR9 : Hid (Rd w9 b (43 :: dg 0 :: dg 0 :: dg 0 :: dg 0 :: []) Y (j + 1) n hh ii ss 0 0) := hr9
  have HM9 : Hid (Mv b w w9) := HM8.out.trans hm9
  clear hm9 hr9
  go_wp2_with fail
  refine (zone_ok b [] Y (j + 1) n hh ii ss 0 0 _ HR9.out (by simp)).mono ?_
  rintro e w10 ⟨rfl, hm10, hr10⟩
  have HR10 : Hid (Rd w10 b ([]) Y (j + 1) n hh ii ss 0 0) := hr10
  have HM10 : Hid (Mv b w w10) := HM9.out.trans hm10
  clear hm10 hr10
  go_wp2
  go_end0
  exact ⟨rfl, HM10.out, HR10.out⟩

theorem nb_dg (n : Nat) (hn : n < 10) : (((dg n).toNat : Int) == 32) = false ∧ (((dg n).toNat : Int) == 9) = false := by
  have := dg_toNat n hn
  constructor
  · rw [beq_eq_false_iff_ne]; omega
  · rw [beq_eq_false_iff_ne]; omega

set_option maxHeartbeats 2000000 in
theorem pmail (b : Nat) (p q n : Nat) (hp : p < 10) (hq : q < 10) (hn : Hid ((p : Int) * 10 + q = n)) (j : Nat) (hj : j < 12) (y1 y2 y3 y4 Y : Nat) (v1 : y1 < 10) (v2 : y2 < 10) (v3 : y3 < 10) (v4 : y4 < 10) (vy : Hid (((y1 * 10 + y2) * 10 + y3) * 10 + y4 = Y)) (h1 h2 i1 i2 s1 s2 hh ii ss : Nat) (u1 : h1 < 10) (u2 : h2 < 10) (u3 : i1 < 10) (u4 : i2 < 10) (u5 : s1 < 10) (u6 : s2 < 10) (vh : Hid (h1 * 10 + h2 = hh)) (vi : Hid (i1 * 10 + i2 = ii)) (vs : Hid (s1 * 10 + s2 = ss)) (jw : Nat) (hjw : jw < 7) (cw cm : UInt8) (rw0 rm : List UInt8) (ew : wkd (jw : Int) = cw :: rw0) (em : mon (j + 1 : Int) = cm :: rm) (z1 : ((cw.toNat : Int) == 32) = false) (z2 : ((cw.toNat : Int) == 9) = false) (z3 : 57 < (cw.toNat : Int)) (m1 : ((cm.toNat : Int) == 32) = false) (m2 : ((cm.toNat : Int) == 9) = false) (w : World) (k : Rd w b (cw :: (rw0 ++ 44 :: 32 :: dg p :: dg q :: 32 :: cm :: (rm ++ 32 :: dg y1 :: dg y2 :: dg y3 :: dg y4 :: 32 :: dg h1 :: dg h2 :: 58 :: dg i1 :: dg i2 :: 58 :: dg s1 :: dg s2 :: 32 :: 43 :: dg 0 :: dg 0 :: dg 0 :: dg 0 :: []))) 0 0 0 0 0 0 0 0) :
    Calls Tryd.prog 23 #[.pointer (some ⟨b, 0, none⟩)] w fun e w' => e = .returned (.tuple #[]) ∧ Mv b w w' ∧ Rd w' b [] Y (j + 1) n hh ii ss 0 0 := by
  have HR0 : Hid (Rd w b (cw :: (rw0 ++ 44 :: 32 :: dg p :: dg q :: 32 :: cm :: (rm ++ 32 :: dg y1 :: dg y2 :: dg y3 :: dg y4 :: 32 :: dg h1 :: dg h2 :: 58 :: dg i1 :: dg i2 :: 58 :: dg s1 :: dg s2 :: 32 :: 43 :: dg 0 :: dg 0 :: dg 0 :: dg 0 :: []))) 0 0 0 0 0 0 0 0) := k
  clear k
  have lm : (rm.length : Int) ≤ 3 := by have := mon_len (j + 1 : Int); rw [em] at this; simp at this; omega
  have EW : Hid (wkd (jw : Int) = cw :: rw0) := ew
  have EM : Hid (mon (j + 1 : Int) = cm :: rm) := em
  clear ew em
  go_enter Tryd.func23, Tryd.ntmps23
  go_wp2_with (go_at_call 24; refine (skipBlanks0 b _ 0 0 0 0 0 0 0 0 _ cw HR0.out z1 z2).mono ?_; rintro e w' ⟨rfl, hw⟩; obtain rfl := hw.symm)
  go_wp2_with (go_at_call 25; refine (atDigit_no b cw _ 0 0 0 0 0 0 0 0 _ HR0.out (Or.inr z3)).mono ?_; rintro e w' ⟨rfl, hw⟩; obtain rfl := hw.symm)
  refine (dow_ok b (dg q :: 32 :: cm :: (rm ++ 32 :: dg y1 :: dg y2 :: dg y3 :: dg y4 :: 32 :: dg h1 :: dg h2 :: 58 :: dg i1 :: dg i2 :: 58 :: dg s1 :: dg s2 :: 32 :: 43 :: dg 0 :: dg 0 :: dg 0 :: dg 0 :: [])) 0 0 0 0 0 0 0 0 _ jw hjw (dg p) (by rw [EW.out]; exact HR0.out) (nb_dg p (by omega)).1 (nb_dg p (by omega)).2 (by have := lm; simp; omega)).mono ?_
  rintro e w1 ⟨rfl, hm1, hr1⟩
  have HR1 : Hid (Rd w1 b (dg p :: dg q :: 32 :: cm :: (rm ++ 32 :: dg y1 :: dg y2 :: dg y3 :: dg y4 :: 32 :: dg h1 :: dg h2 :: 58 :: dg i1 :: dg i2 :: 58 :: dg s1 :: dg s2 :: 32 :: 43 :: dg 0 :: dg 0 :: dg 0 :: dg 0 :: [])) 0 0 0 0 0 0 0 0) := hr1
  have HM1 : Hid (Mv b w w1) := hm1
  clear hm1 hr1
  go_wp2_with fail
  refine (day2_ok b (32 :: cm :: (rm ++ 32 :: dg y1 :: dg y2 :: dg y3 :: dg y4 :: 32 :: dg h1 :: dg h2 :: 58 :: dg i1 :: dg i2 :: 58 :: dg s1 :: dg s2 :: 32 :: 43 :: dg 0 :: dg 0 :: dg 0 :: dg 0 :: [])) 0 0 0 0 0 0 0 0 _ p q n hp hq hn HR1.out (by have := lm; simp; omega)).mono ?_
  rintro e w2 ⟨rfl, hm2, hr2⟩
  have HR2 : Hid (Rd w2 b (32 :: cm :: (rm ++ 32 :: dg y1 :: dg y2 :: dg y3 :: dg y4 :: 32 :: dg h1 :: dg h2 :: 58 :: dg i1 :: dg i2 :: 58 :: dg s1 :: dg s2 :: 32 :: 43 :: dg 0 :: dg 0 :: dg 0 :: dg 0 :: [])) 0 0 n 0 0 0 0 0) := hr2
  have HM2 : Hid (Mv b w w2) := HM1.out.trans hm2
  clear hm2 hr2
  go_wp2_with fail
  refine (blanks1 b (rm ++ 32 :: dg y1 :: dg y2 :: dg y3 :: dg y4 :: 32 :: dg h1 :: dg h2 :: 58 :: dg i1 :: dg i2 :: 58 :: dg s1 :: dg s2 :: 32 :: 43 :: dg 0 :: dg 0 :: dg 0 :: dg 0 :: []) 0 0 n 0 0 0 0 0 _ cm HR2.out m1 m2 (by have := lm; simp; omega)).mono ?_
  rintro e w3 ⟨rfl, hm3, hr3⟩
  have HR3 : Hid (Rd w3 b (cm :: (rm ++ 32 :: dg y1 :: dg y2 :: dg y3 :: dg y4 :: 32 :: dg h1 :: dg h2 :: 58 :: dg i1 :: dg i2 :: 58 :: dg s1 :: dg s2 :: 32 :: 43 :: dg 0 :: dg 0 :: dg 0 :: dg 0 :: [])) 0 0 n 0 0 0 0 0) := hr3
  have HM3 : Hid (Mv b w w3) := HM2.out.trans hm3
  clear hm3 hr3
  go_wp2_with fail
  refine (month_ok b (32 :: dg y1 :: dg y2 :: dg y3 :: dg y4 :: 32 :: dg h1 :: dg h2 :: 58 :: dg i1 :: dg i2 :: 58 :: dg s1 :: dg s2 :: 32 :: 43 :: dg 0 :: dg 0 :: dg 0 :: dg 0 :: []) 0 0 n 0 0 0 0 0 _ j hj (by rw [EM.out]; exact HR3.out) (by simp)).mono ?_
  rintro e w4 ⟨rfl, hm4, hr4⟩
  have HR4 : Hid (Rd w4 b (32 :: dg y1 :: dg y2 :: dg y3 :: dg y4 :: 32 :: dg h1 :: dg h2 :: 58 :: dg i1 :: dg i2 :: 58 :: dg s1 :: dg s2 :: 32 :: 43 :: dg 0 :: dg 0 :: dg 0 :: dg 0 :: []) 0 (j + 1) n 0 0 0 0 0) := hr4
  have HM4 : Hid (Mv b w w4) := HM3.out.trans hm4
  clear hm4 hr4
  go_wp2_with fail
  refine (blanks1 b (dg y2 :: dg y3 :: dg y4 :: 32 :: dg h1 :: dg h2 :: 58 :: dg i1 :: dg i2 :: 58 :: dg s1 :: dg s2 :: 32 :: 43 :: dg 0 :: dg 0 :: dg 0 :: dg 0 :: []) 0 (j + 1) n 0 0 0 0 0 _ (dg y1) HR4.out (nb_dg y1 (by omega)).1 (nb_dg y1 (by omega)).2 (by simp)).mono ?_
  rintro e w5 ⟨rfl, hm5, hr5⟩
  have HR5 : Hid (Rd w5 b (dg y1 :: dg y2 :: dg y3 :: dg y4 :: 32 :: dg h1 :: dg h2 :: 58 :: dg i1 :: dg i2 :: 58 :: dg s1 :: dg s2 :: 32 :: 43 :: dg 0 :: dg 0 :: dg 0 :: dg 0 :: []) 0 (j + 1) n 0 0 0 0 0) := hr5
  have HM5 : Hid (Mv b w w5) := HM4.out.trans hm5
  clear hm5 hr5
  go_wp2_with fail
  refine (year_ok b (32 :: dg h1 :: dg h2 :: 58 :: dg i1 :: dg i2 :: 58 :: dg s1 :: dg s2 :: 32 :: 43 :: dg 0 :: dg 0 :: dg 0 :: dg 0 :: []) 0 (j + 1) n 0 0 0 0 0 _ y1 y2 y3 y4 Y v1 v2 v3 v4 vy HR5.out (by simp)).mono ?_
  rintro e w6 ⟨rfl, hm6, hr6⟩
  have HR6 : Hid (Rd w6 b (32 :: dg h1 :: dg h2 :: 58 :: dg i1 :: dg i2 :: 58 :: dg s1 :: dg s2 :: 32 :: 43 :: dg 0 :: dg 0 :: dg 0 :: dg 0 :: []) Y (j + 1) n 0 0 0 0 0) := hr6
  have HM6 : Hid (Mv b w w6) := HM5.out.trans hm6
  clear hm6 hr6
  go_wp2_with fail
  refine (blanks1 b (dg h2 :: 58 :: dg i1 :: dg i2 :: 58 :: dg s1 :: dg s2 :: 32 :: 43 :: dg 0 :: dg 0 :: dg 0 :: dg 0 :: []) Y (j + 1) n 0 0 0 0 0 _ (dg h1) HR6.out (nb_dg h1 (by omega)).1 (nb_dg h1 (by omega)).2 (by simp)).mono ?_
  rintro e w7 ⟨rfl, hm7, hr7⟩
  have HR7 : Hid (Rd w7 b (dg h1 :: dg h2 :: 58 :: dg i1 :: dg i2 :: 58 :: dg s1 :: dg s2 :: 32 :: 43 :: dg 0 :: dg 0 :: dg 0 :: dg 0 :: []) Y (j + 1) n 0 0 0 0 0) := hr7
  have HM7 : Hid (Mv b w w7) := HM6.out.trans hm7
  clear hm7 hr7
  go_wp2_with fail
  refine (hm_ok b (58 :: dg s1 :: dg s2 :: 32 :: 43 :: dg 0 :: dg 0 :: dg 0 :: dg 0 :: []) Y (j + 1) n 0 0 0 0 0 _ h1 h2 i1 i2 hh ii u1 u2 u3 u4 vh vi HR7.out (by simp)).mono ?_
  rintro e w8 ⟨rfl, hm8, hr8⟩
  have HR8 : Hid (Rd w8 b (58 :: dg s1 :: dg s2 :: 32 :: 43 :: dg 0 :: dg 0 :: dg 0 :: dg 0 :: []) Y (j + 1) n hh ii 0 0 0) := hr8
  have HM8 : Hid (Mv b w w8) := HM7.out.trans hm8
  clear hm8 hr8
  go_wp2_with (go_at_call 32; refine (at_any b 58 _ Y (j + 1) n hh ii 0 0 0 _ _ HR8.out).mono ?_; rintro e w' ⟨rfl, hw⟩; obtain rfl := hw.symm)
  refine (second_ok b (32 :: 43 :: dg 0 :: dg 0 :: dg 0 :: dg 0 :: []) Y (j + 1) n hh ii 0 0 0 _ s1 s2 ss u5 u6 vs HR8.out (by simp)).mono ?_
  rintro e w9 ⟨rfl, hm9, hr9⟩
  have HR9 : Hid (Rd w9 b (32 :: 43 :: dg 0 :: dg 0 :: dg 0 :: dg 0 :: []) Y (j + 1) n hh ii ss 0 0) := hr9
  have HM9 : Hid (Mv b w w9) := HM8.out.trans hm9
  clear hm9 hr9
  go_wp2_with fail
  refine (blanks1 b (dg 0 :: dg 0 :: dg 0 :: dg 0 :: []) Y (j + 1) n hh ii ss 0 0 _ 43 HR9.out rfl rfl (by simp)).mono ?_
  rintro e w10 ⟨rfl, hm10, hr10⟩
  have HR10 : Hid (Rd w10 b (43 :: dg 0 :: dg 0 :: dg 0 :: dg 0 :: []) Y (j + 1) n hh ii ss 0 0) := hr10
  have HM10 : Hid (Mv b w w10) := HM9.out.trans hm10
  clear hm10 hr10
  go_wp2_with fail
  refine (zone_ok b [] Y (j + 1) n hh ii ss 0 0 _ HR10.out (by simp)).mono ?_
  rintro e w11 ⟨rfl, hm11, hr11⟩
  have HR11 : Hid (Rd w11 b ([]) Y (j + 1) n hh ii ss 0 0) := hr11
  have HM11 : Hid (Mv b w w11) := HM10.out.trans hm11
  clear hm11 hr11
  go_wp2_with (go_at_call 24; refine (skipBlanksNil b Y (j + 1) n hh ii ss 0 0 _ HR11.out).mono ?_; rintro e w' ⟨rfl, hw⟩; obtain rfl := hw.symm)
  go_end0
  exact ⟨rfl, HM11.out, HR11.out⟩
end Go.Proofs.YtjddeaeanomdhabDoor
