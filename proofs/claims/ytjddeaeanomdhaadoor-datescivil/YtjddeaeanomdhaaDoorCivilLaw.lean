/- The law DatesCivil. -/
import Derived.Test.YtjddeaeanomdhaaDoorMoment
import Derived.Test.YtjddeaeanomdhaaDoorCalm
namespace Go.Proofs.YtjddeaeanomdhaaDoor
open Go.RowKit

set_option maxHeartbeats 2000000 in
theorem civ_in_y (t y m d h mi s wk : Int) (w : World) (a : Nat → Addr) (hE : Errs w a) (h0 : 0 ≤ t) (h1 : t ≤ 4102444799) (hr : rightB y m d h mi s = true) :
    Calls Tryd.prog 3 #[.int .i64 t, .agg #[.int .i64 y, .int .i64 m, .int .i64 d, .int .i64 h, .int .i64 mi, .int .i64 s, .int .i64 wk]] w fun e w' => e = .returned (.bool true) ∧ Below w.heap.size w w' := by
  have HE : Hid (Errs w a) := hE
  clear hE
  have HC : Hid (∀ w, Calls Tryd.prog 10 #[.int .i64 t] w fun e w' => e = .returned (.tuple #[.agg #[.int .i64 (Cal.cy (t / 86400)), .int .i64 (Cal.cm (t / 86400)), .int .i64 (Cal.cd (t / 86400)), .int .i64 (t % 86400 / 3600), .int .i64 (t % 3600 / 60), .int .i64 (t % 60), .int .i64 ((4 + t / 86400) % 7)], .nilIface]) ∧ Below w.heap.size w w') := fun w => civil_yes t w h0 h1
  have HR : Hid (∀ w, Calls Tryd.prog 11 #[.int .i64 t] w fun e w' => e = .returned (.tuple #[.agg #[.int .i64 (Cal.cy (t / 86400)), .int .i64 (Cal.cm (t / 86400)), .int .i64 (Cal.cd (t / 86400)), .int .i64 (t % 86400 / 3600), .int .i64 (t % 3600 / 60), .int .i64 (t % 60), .int .i64 ((4 + t / 86400) % 7)], .bool true]) ∧ Below w.heap.size w w') := fun w => rcivil_yes t w h0 h1
  clear h0 h1
  go_enter Tryd.func3, Tryd.ntmps3
  go_wp2_with (go_at_call 9; refine (alive_yes _).mono ?_; rintro e w1 ⟨rfl, hb1⟩)
  have HK1 : Hid (Blk w1 w.heap.size #[.int .i64 y, .int .i64 m, .int .i64 d, .int .i64 h, .int .i64 mi, .int .i64 s, .int .i64 wk] 23) := (Blk.new w #[.int .i64 y, .int .i64 m, .int .i64 d, .int .i64 h, .int .i64 mi, .int .i64 s, .int .i64 wk] 23).below hb1 (by simp)
  have HB1 : Hid (Below w.heap.size w w1) := ((Below.refl _ _).alloc (Nat.le_refl _) _).trans (hb1.mono (by simp))
  clear hb1
  refine (HC.out _).mono ?_
  rintro e w2 ⟨rfl, hb2⟩
  have HK2 : Hid (Blk w2 w.heap.size #[.int .i64 y, .int .i64 m, .int .i64 d, .int .i64 h, .int .i64 mi, .int .i64 s, .int .i64 wk] 23) := HK1.out.below hb2 HK1.out.lt
  have HB2 : Hid (Below w.heap.size w w2) := HB1.out.trans (hb2.mono HB1.out.size)
  clear hb2
  go_wp2_with fail
  refine (HR.out _).mono ?_
  rintro e w3 ⟨rfl, hb3⟩
  have HK3 : Hid (Blk w3 w.heap.size #[.int .i64 y, .int .i64 m, .int .i64 d, .int .i64 h, .int .i64 mi, .int .i64 s, .int .i64 wk] 23) := (HK2.out.alloc _).below hb3 (HK2.out.alloc _).lt
  have HB3 : Hid (Below w.heap.size w w3) := (HB2.out.alloc HB2.out.size _).trans (hb3.mono (by have := HB2.out.size; simp; omega))
  have hx := ((Blk.new w2 _ _).below hb3 (by simp)).cell
  have hz : w2.heap.size < w3.heap.size := by have := hb3.size; simp at this; omega
  have hk3 := HK3.out.cell
  have hl3 := HK3.out.lt
  clear hb3
  go_wp2_with fail
  refine (moment_yes _ _ _ _ _ _ _ _ hr).mono ?_
  rintro e w5 ⟨rfl, hb5⟩
  have HK5 : Hid (Blk w5 w.heap.size #[.int .i64 y, .int .i64 m, .int .i64 d, .int .i64 h, .int .i64 mi, .int .i64 s, .int .i64 wk] 23) := (HK3.out.alloc _).below hb5 (HK3.out.alloc _).lt
  have HB5 : Hid (Below w.heap.size w w5) := (HB3.out.alloc HB3.out.size _).trans (hb5.mono (HB3.out.alloc HB3.out.size _).size)
  have hk5 := HK5.out.cell
  clear hb5
  go_wp2_with fail
  refine (rright_any _ _ _ _ _ _ _ _).mono ?_
  rintro e w6 ⟨rfl, hb6⟩
  have HK6 : Hid (Blk w6 w.heap.size #[.int .i64 y, .int .i64 m, .int .i64 d, .int .i64 h, .int .i64 mi, .int .i64 s, .int .i64 wk] 23) := HK5.out.below hb6 HK5.out.lt
  have HB6 : Hid (Below w.heap.size w w6) := HB5.out.trans (hb6.mono HB5.out.size)
  have hk6 := HK6.out.cell
  clear hb6
  go_wp2_with fail
  refine (rmoment_any _ _ _ _ _ _ _ _ hr).mono ?_
  rintro e w7 ⟨rfl, hb7⟩
  go_wp2
  go_ret
  exact ⟨rfl, HB6.out.trans (hb7.mono HB6.out.size)⟩

set_option maxHeartbeats 2000000 in
theorem civ_out_y (t y m d h mi s wk : Int) (w : World) (a : Nat → Addr) (hE : Errs w a) (ht : t < 0 ∨ 4102444799 < t) (hr : rightB y m d h mi s = true) :
    Calls Tryd.prog 3 #[.int .i64 t, .agg #[.int .i64 y, .int .i64 m, .int .i64 d, .int .i64 h, .int .i64 mi, .int .i64 s, .int .i64 wk]] w fun e w' => e = .returned (.bool true) ∧ Below w.heap.size w w' := by
  have HE : Hid (Errs w a) := hE
  clear hE
  have HC : Hid (∀ w, Errs w a → Calls Tryd.prog 10 #[.int .i64 t] w fun e w' => e = .returned (.tuple #[.agg #[.int .i64 0, .int .i64 0, .int .i64 0, .int .i64 0, .int .i64 0, .int .i64 0, .int .i64 0], .iface 104 (.pointer (some (a 0)))]) ∧ Below w.heap.size w w') := fun w hE => civil_no t w a hE ht
  have HR : Hid (∀ w, Calls Tryd.prog 11 #[.int .i64 t] w fun e w' => e = .returned (.tuple #[.agg #[.int .i64 0, .int .i64 0, .int .i64 0, .int .i64 0, .int .i64 0, .int .i64 0, .int .i64 0], .bool false]) ∧ Below w.heap.size w w') := fun w => rcivil_no t w ht
  clear ht
  go_enter Tryd.func3, Tryd.ntmps3
  go_wp2_with (go_at_call 9; refine (alive_yes _).mono ?_; rintro e w1 ⟨rfl, hb1⟩)
  have HK1 : Hid (Blk w1 w.heap.size #[.int .i64 y, .int .i64 m, .int .i64 d, .int .i64 h, .int .i64 mi, .int .i64 s, .int .i64 wk] 23) := (Blk.new w #[.int .i64 y, .int .i64 m, .int .i64 d, .int .i64 h, .int .i64 mi, .int .i64 s, .int .i64 wk] 23).below hb1 (by simp)
  have HB1 : Hid (Below w.heap.size w w1) := ((Below.refl _ _).alloc (Nat.le_refl _) _).trans (hb1.mono (by simp))
  clear hb1
  refine (HC.out _ (HE.out.below HB1.out)).mono ?_
  rintro e w2 ⟨rfl, hb2⟩
  have HK2 : Hid (Blk w2 w.heap.size #[.int .i64 y, .int .i64 m, .int .i64 d, .int .i64 h, .int .i64 mi, .int .i64 s, .int .i64 wk] 23) := HK1.out.below hb2 HK1.out.lt
  have HB2 : Hid (Below w.heap.size w w2) := HB1.out.trans (hb2.mono HB1.out.size)
  clear hb2
  go_wp2_with fail
  refine (HR.out _).mono ?_
  rintro e w3 ⟨rfl, hb3⟩
  have HK3 : Hid (Blk w3 w.heap.size #[.int .i64 y, .int .i64 m, .int .i64 d, .int .i64 h, .int .i64 mi, .int .i64 s, .int .i64 wk] 23) := (HK2.out.alloc _).below hb3 (HK2.out.alloc _).lt
  have HB3 : Hid (Below w.heap.size w w3) := (HB2.out.alloc HB2.out.size _).trans (hb3.mono (by have := HB2.out.size; simp; omega))
  have hx := ((Blk.new w2 _ _).below hb3 (by simp)).cell
  have hz : w2.heap.size < w3.heap.size := by have := hb3.size; simp at this; omega
  have hk3 := HK3.out.cell
  have hl3 := HK3.out.lt
  clear hb3
  go_wp2_with fail
  refine (num_err 0 (by decide) _ a (HE.out.below (HB3.out.alloc HB3.out.size _))).mono ?_
  rintro e w4 ⟨rfl, hb4⟩
  have HK4 : Hid (Blk w4 w.heap.size #[.int .i64 y, .int .i64 m, .int .i64 d, .int .i64 h, .int .i64 mi, .int .i64 s, .int .i64 wk] 23) := (HK3.out.alloc _).below hb4 (HK3.out.alloc _).lt
  have HB4 : Hid (Below w.heap.size w w4) := (HB3.out.alloc HB3.out.size _).trans (hb4.mono (by have := HB3.out.size; simp; omega))
  have hk4 := HK4.out.cell
  clear hb4
  go_wp2_with fail
  refine (moment_yes _ _ _ _ _ _ _ _ hr).mono ?_
  rintro e w5 ⟨rfl, hb5⟩
  have HK5 : Hid (Blk w5 w.heap.size #[.int .i64 y, .int .i64 m, .int .i64 d, .int .i64 h, .int .i64 mi, .int .i64 s, .int .i64 wk] 23) := (HK4.out).below hb5 (HK4.out).lt
  have HB5 : Hid (Below w.heap.size w w5) := (HB4.out).trans (hb5.mono (HB4.out).size)
  have hk5 := HK5.out.cell
  clear hb5
  go_wp2_with fail
  refine (rright_any _ _ _ _ _ _ _ _).mono ?_
  rintro e w6 ⟨rfl, hb6⟩
  have HK6 : Hid (Blk w6 w.heap.size #[.int .i64 y, .int .i64 m, .int .i64 d, .int .i64 h, .int .i64 mi, .int .i64 s, .int .i64 wk] 23) := HK5.out.below hb6 HK5.out.lt
  have HB6 : Hid (Below w.heap.size w w6) := HB5.out.trans (hb6.mono HB5.out.size)
  have hk6 := HK6.out.cell
  clear hb6
  go_wp2_with fail
  refine (rmoment_any _ _ _ _ _ _ _ _ hr).mono ?_
  rintro e w7 ⟨rfl, hb7⟩
  go_wp2
  go_ret
  exact ⟨rfl, HB6.out.trans (hb7.mono HB6.out.size)⟩

set_option maxHeartbeats 2000000 in
theorem civ_in_n (t y m d h mi s wk : Int) (w : World) (a : Nat → Addr) (hE : Errs w a) (h0 : 0 ≤ t) (h1 : t ≤ 4102444799) (hr : rightB y m d h mi s = false) :
    Calls Tryd.prog 3 #[.int .i64 t, .agg #[.int .i64 y, .int .i64 m, .int .i64 d, .int .i64 h, .int .i64 mi, .int .i64 s, .int .i64 wk]] w fun e w' => e = .returned (.bool true) ∧ Below w.heap.size w w' := by
  have HE : Hid (Errs w a) := hE
  clear hE
  have HC : Hid (∀ w, Calls Tryd.prog 10 #[.int .i64 t] w fun e w' => e = .returned (.tuple #[.agg #[.int .i64 (Cal.cy (t / 86400)), .int .i64 (Cal.cm (t / 86400)), .int .i64 (Cal.cd (t / 86400)), .int .i64 (t % 86400 / 3600), .int .i64 (t % 3600 / 60), .int .i64 (t % 60), .int .i64 ((4 + t / 86400) % 7)], .nilIface]) ∧ Below w.heap.size w w') := fun w => civil_yes t w h0 h1
  have HR : Hid (∀ w, Calls Tryd.prog 11 #[.int .i64 t] w fun e w' => e = .returned (.tuple #[.agg #[.int .i64 (Cal.cy (t / 86400)), .int .i64 (Cal.cm (t / 86400)), .int .i64 (Cal.cd (t / 86400)), .int .i64 (t % 86400 / 3600), .int .i64 (t % 3600 / 60), .int .i64 (t % 60), .int .i64 ((4 + t / 86400) % 7)], .bool true]) ∧ Below w.heap.size w w') := fun w => rcivil_yes t w h0 h1
  clear h0 h1
  go_enter Tryd.func3, Tryd.ntmps3
  go_wp2_with (go_at_call 9; refine (alive_yes _).mono ?_; rintro e w1 ⟨rfl, hb1⟩)
  have HK1 : Hid (Blk w1 w.heap.size #[.int .i64 y, .int .i64 m, .int .i64 d, .int .i64 h, .int .i64 mi, .int .i64 s, .int .i64 wk] 23) := (Blk.new w #[.int .i64 y, .int .i64 m, .int .i64 d, .int .i64 h, .int .i64 mi, .int .i64 s, .int .i64 wk] 23).below hb1 (by simp)
  have HB1 : Hid (Below w.heap.size w w1) := ((Below.refl _ _).alloc (Nat.le_refl _) _).trans (hb1.mono (by simp))
  clear hb1
  refine (HC.out _).mono ?_
  rintro e w2 ⟨rfl, hb2⟩
  have HK2 : Hid (Blk w2 w.heap.size #[.int .i64 y, .int .i64 m, .int .i64 d, .int .i64 h, .int .i64 mi, .int .i64 s, .int .i64 wk] 23) := HK1.out.below hb2 HK1.out.lt
  have HB2 : Hid (Below w.heap.size w w2) := HB1.out.trans (hb2.mono HB1.out.size)
  clear hb2
  go_wp2_with fail
  refine (HR.out _).mono ?_
  rintro e w3 ⟨rfl, hb3⟩
  have HK3 : Hid (Blk w3 w.heap.size #[.int .i64 y, .int .i64 m, .int .i64 d, .int .i64 h, .int .i64 mi, .int .i64 s, .int .i64 wk] 23) := (HK2.out.alloc _).below hb3 (HK2.out.alloc _).lt
  have HB3 : Hid (Below w.heap.size w w3) := (HB2.out.alloc HB2.out.size _).trans (hb3.mono (by have := HB2.out.size; simp; omega))
  have hx := ((Blk.new w2 _ _).below hb3 (by simp)).cell
  have hz : w2.heap.size < w3.heap.size := by have := hb3.size; simp at this; omega
  have hk3 := HK3.out.cell
  have hl3 := HK3.out.lt
  clear hb3
  go_wp2_with fail
  refine (moment_no _ _ _ _ _ _ _ _ a (HE.out.below (HB3.out.alloc HB3.out.size _)) hr).mono ?_
  rintro e w5 ⟨rfl, hb5⟩
  have HK5 : Hid (Blk w5 w.heap.size #[.int .i64 y, .int .i64 m, .int .i64 d, .int .i64 h, .int .i64 mi, .int .i64 s, .int .i64 wk] 23) := (HK3.out.alloc _).below hb5 (HK3.out.alloc _).lt
  have HB5 : Hid (Below w.heap.size w w5) := (HB3.out.alloc HB3.out.size _).trans (hb5.mono (HB3.out.alloc HB3.out.size _).size)
  have hk5 := HK5.out.cell
  clear hb5
  go_wp2_with fail
  refine (rright_any _ _ _ _ _ _ _ _).mono ?_
  rintro e w6 ⟨rfl, hb6⟩
  have HK6 : Hid (Blk w6 w.heap.size #[.int .i64 y, .int .i64 m, .int .i64 d, .int .i64 h, .int .i64 mi, .int .i64 s, .int .i64 wk] 23) := HK5.out.below hb6 HK5.out.lt
  have HB6 : Hid (Below w.heap.size w w6) := HB5.out.trans (hb6.mono HB5.out.size)
  have hk6 := HK6.out.cell
  clear hb6
  go_wp2_with fail
  refine (num_err 0 (by decide) _ a (HE.out.below HB6.out)).mono ?_
  rintro e w7 ⟨rfl, hb7⟩
  go_wp2
  go_ret
  exact ⟨rfl, HB6.out.trans (hb7.mono HB6.out.size)⟩

set_option maxHeartbeats 2000000 in
theorem civ_out_n (t y m d h mi s wk : Int) (w : World) (a : Nat → Addr) (hE : Errs w a) (ht : t < 0 ∨ 4102444799 < t) (hr : rightB y m d h mi s = false) :
    Calls Tryd.prog 3 #[.int .i64 t, .agg #[.int .i64 y, .int .i64 m, .int .i64 d, .int .i64 h, .int .i64 mi, .int .i64 s, .int .i64 wk]] w fun e w' => e = .returned (.bool true) ∧ Below w.heap.size w w' := by
  have HE : Hid (Errs w a) := hE
  clear hE
  have HC : Hid (∀ w, Errs w a → Calls Tryd.prog 10 #[.int .i64 t] w fun e w' => e = .returned (.tuple #[.agg #[.int .i64 0, .int .i64 0, .int .i64 0, .int .i64 0, .int .i64 0, .int .i64 0, .int .i64 0], .iface 104 (.pointer (some (a 0)))]) ∧ Below w.heap.size w w') := fun w hE => civil_no t w a hE ht
  have HR : Hid (∀ w, Calls Tryd.prog 11 #[.int .i64 t] w fun e w' => e = .returned (.tuple #[.agg #[.int .i64 0, .int .i64 0, .int .i64 0, .int .i64 0, .int .i64 0, .int .i64 0, .int .i64 0], .bool false]) ∧ Below w.heap.size w w') := fun w => rcivil_no t w ht
  clear ht
  go_enter Tryd.func3, Tryd.ntmps3
  go_wp2_with (go_at_call 9; refine (alive_yes _).mono ?_; rintro e w1 ⟨rfl, hb1⟩)
  have HK1 : Hid (Blk w1 w.heap.size #[.int .i64 y, .int .i64 m, .int .i64 d, .int .i64 h, .int .i64 mi, .int .i64 s, .int .i64 wk] 23) := (Blk.new w #[.int .i64 y, .int .i64 m, .int .i64 d, .int .i64 h, .int .i64 mi, .int .i64 s, .int .i64 wk] 23).below hb1 (by simp)
  have HB1 : Hid (Below w.heap.size w w1) := ((Below.refl _ _).alloc (Nat.le_refl _) _).trans (hb1.mono (by simp))
  clear hb1
  refine (HC.out _ (HE.out.below HB1.out)).mono ?_
  rintro e w2 ⟨rfl, hb2⟩
  have HK2 : Hid (Blk w2 w.heap.size #[.int .i64 y, .int .i64 m, .int .i64 d, .int .i64 h, .int .i64 mi, .int .i64 s, .int .i64 wk] 23) := HK1.out.below hb2 HK1.out.lt
  have HB2 : Hid (Below w.heap.size w w2) := HB1.out.trans (hb2.mono HB1.out.size)
  clear hb2
  go_wp2_with fail
  refine (HR.out _).mono ?_
  rintro e w3 ⟨rfl, hb3⟩
  have HK3 : Hid (Blk w3 w.heap.size #[.int .i64 y, .int .i64 m, .int .i64 d, .int .i64 h, .int .i64 mi, .int .i64 s, .int .i64 wk] 23) := (HK2.out.alloc _).below hb3 (HK2.out.alloc _).lt
  have HB3 : Hid (Below w.heap.size w w3) := (HB2.out.alloc HB2.out.size _).trans (hb3.mono (by have := HB2.out.size; simp; omega))
  have hx := ((Blk.new w2 _ _).below hb3 (by simp)).cell
  have hz : w2.heap.size < w3.heap.size := by have := hb3.size; simp at this; omega
  have hk3 := HK3.out.cell
  have hl3 := HK3.out.lt
  clear hb3
  go_wp2_with fail
  refine (num_err 0 (by decide) _ a (HE.out.below (HB3.out.alloc HB3.out.size _))).mono ?_
  rintro e w4 ⟨rfl, hb4⟩
  have HK4 : Hid (Blk w4 w.heap.size #[.int .i64 y, .int .i64 m, .int .i64 d, .int .i64 h, .int .i64 mi, .int .i64 s, .int .i64 wk] 23) := (HK3.out.alloc _).below hb4 (HK3.out.alloc _).lt
  have HB4 : Hid (Below w.heap.size w w4) := (HB3.out.alloc HB3.out.size _).trans (hb4.mono (by have := HB3.out.size; simp; omega))
  have hk4 := HK4.out.cell
  clear hb4
  go_wp2_with fail
  refine (moment_no _ _ _ _ _ _ _ _ a (HE.out.below (HB4.out)) hr).mono ?_
  rintro e w5 ⟨rfl, hb5⟩
  have HK5 : Hid (Blk w5 w.heap.size #[.int .i64 y, .int .i64 m, .int .i64 d, .int .i64 h, .int .i64 mi, .int .i64 s, .int .i64 wk] 23) := (HK4.out).below hb5 (HK4.out).lt
  have HB5 : Hid (Below w.heap.size w w5) := (HB4.out).trans (hb5.mono (HB4.out).size)
  have hk5 := HK5.out.cell
  clear hb5
  go_wp2_with fail
  refine (rright_any _ _ _ _ _ _ _ _).mono ?_
  rintro e w6 ⟨rfl, hb6⟩
  have HK6 : Hid (Blk w6 w.heap.size #[.int .i64 y, .int .i64 m, .int .i64 d, .int .i64 h, .int .i64 mi, .int .i64 s, .int .i64 wk] 23) := HK5.out.below hb6 HK5.out.lt
  have HB6 : Hid (Below w.heap.size w w6) := HB5.out.trans (hb6.mono HB5.out.size)
  have hk6 := HK6.out.cell
  clear hb6
  go_wp2_with fail
  refine (num_err 0 (by decide) _ a (HE.out.below HB6.out)).mono ?_
  rintro e w7 ⟨rfl, hb7⟩
  go_wp2
  go_ret
  exact ⟨rfl, HB6.out.trans (hb7.mono HB6.out.size)⟩

theorem civil_law (t y m d h mi s wk : Int) (w : World) (a : Nat → Addr) (hE : Errs w a) :
    Calls Tryd.prog 3 #[.int .i64 t, .agg #[.int .i64 y, .int .i64 m, .int .i64 d, .int .i64 h, .int .i64 mi, .int .i64 s, .int .i64 wk]] w fun e w' => e = .returned (.bool true) ∧ Below w.heap.size w w' := by
  cases hr : rightB y m d h mi s
  · by_cases ht : 0 ≤ t ∧ t ≤ 4102444799
    · exact civ_in_n t y m d h mi s wk w a hE ht.1 ht.2 hr
    · exact civ_out_n t y m d h mi s wk w a hE (by omega) hr
  · by_cases ht : 0 ≤ t ∧ t ≤ 4102444799
    · exact civ_in_y t y m d h mi s wk w a hE ht.1 ht.2 hr
    · exact civ_out_y t y m d h mi s wk w a hE (by omega) hr
end Go.Proofs.YtjddeaeanomdhaaDoor
