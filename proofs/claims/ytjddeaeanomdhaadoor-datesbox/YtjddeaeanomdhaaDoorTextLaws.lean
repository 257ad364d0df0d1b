/- The laws DatesMail, DatesBox and DatesInternal. -/
import Derived.Test.YtjddeaeanomdhaaDoorMoments
namespace Go.Proofs.YtjddeaeanomdhaaDoor
open Go.RowKit

theorem wkd_cons (m : Int) : ∃ c r, wkd m = c :: r := by
  unfold wkd
  repeat' split
  all_goals exact ⟨_, _, rfl⟩
theorem padTo_cons : ∀ (f p : Nat) (c : UInt8) (l : List UInt8), l ≠ [] → ∃ x r, padTo f p c l = x :: r
  | 0, _, _, l, h => by
    cases l with
    | nil => exact absurd rfl h
    | cons x r => exact ⟨x, r, rfl⟩
  | f + 1, p, c, l, h => by
    rw [padTo]
    split
    · exact padTo_cons f p c (c :: l) (by simp)
    · cases l with
      | nil => exact absurd rfl h
      | cons x r => exact ⟨x, r, rfl⟩
theorem digsTo_ne : ∀ (f n : Nat) (l : List UInt8), l ≠ [] → digsTo f n l ≠ []
  | 0, _, _, h => h
  | f + 1, n, l, h => by
    rw [digsTo]
    split
    · exact h
    · exact digsTo_ne f _ _ (by simp)
theorem digs_ne (n : Nat) : digsTo 6 n [] ≠ [] := by
  rw [digsTo, if_neg (by simp)]
  exact digsTo_ne 5 _ _ (by simp)
theorem app_cons {a b : List UInt8} (h : ∃ c r, a = c :: r) : ∃ c r, a ++ b = c :: r := by
  obtain ⟨c, r, rfl⟩ := h
  exact ⟨c, r ++ b, rfl⟩
theorem mailL_cons (y m d h mi s wk : Nat) : ∃ c r, mailL y m d h mi s wk = c :: r := by
  unfold mailL
  repeat (refine app_cons ?_)
  exact wkd_cons _
theorem boxL_cons (y m d h mi s wk : Nat) : ∃ c r, boxL y m d h mi s wk = c :: r := by
  unfold boxL
  repeat (refine app_cons ?_)
  exact wkd_cons _
theorem internalL_cons (y m d h mi s wk : Nat) : ∃ c r, internalL y m d h mi s wk = c :: r := by
  unfold internalL
  repeat (refine app_cons ?_)
  exact padTo_cons _ _ _ _ (digs_ne d)

set_option maxHeartbeats 1000000 in
theorem mail_law_in (t : Int) (c : UInt8) (r : List UInt8) (w : World)  (ht : Tab w)
    (HM : Hid (∀ w, Tab w → Calls Tryd.prog 16 #[.int .i64 t] w fun e w' => e = .returned (.tuple #[.string ⟨(c :: r).toArray⟩, .nilIface]) ∧ Below w.heap.size w w'))
    (HR : Hid (∀ w, Calls Tryd.prog 17 #[.int .i64 t] w fun e w' => e = .returned (.string ⟨(c :: r).toArray⟩) ∧ Below w.heap.size w w')) :
    Calls Tryd.prog 4 #[.int .i64 t] w fun e w' => e = .returned (.bool true) ∧ Below w.heap.size w w' := by
  have HT : Hid (Tab w) := ht
  clear ht
  go_enter Tryd.func4, Tryd.ntmps4
  go_wp2_with (go_at_call 9; refine (alive_yes _).mono ?_; rintro e w1 ⟨rfl, hb1⟩)
  refine (HM.out _ (HT.out.below hb1)).mono ?_
  rintro e w2 ⟨rfl, hb2⟩
  go_wp2_with fail
  refine (HR.out _).mono ?_
  rintro e w3 ⟨rfl, hb3⟩
  go_wp2
  go_ret
  exact ⟨rfl, (hb1.trans (hb2.mono hb1.size)).trans (hb3.mono (Nat.le_trans hb1.size hb2.size))⟩

set_option maxHeartbeats 1000000 in
theorem mail_law_out (t : Int) (w : World) (a : Nat → Addr) (hE : Errs w a) (ht : t < 0 ∨ 4102444799 < t) :
    Calls Tryd.prog 4 #[.int .i64 t] w fun e w' => e = .returned (.bool true) ∧ Below w.heap.size w w' := by
  have HM : Hid (∀ w, Errs w a → Calls Tryd.prog 16 #[.int .i64 t] w fun e w' => e = .returned (.tuple #[.string ⟨#[]⟩, .iface 104 (.pointer (some (a 0)))]) ∧ Below w.heap.size w w') := fun w hE => mail_no t w a hE ht
  have HR : Hid (∀ w, Calls Tryd.prog 17 #[.int .i64 t] w fun e w' => e = .returned (.string ⟨#[]⟩) ∧ Below w.heap.size w w') := fun w => rmail_no t w ht
  have HE : Hid (Errs w a) := hE
  clear ht hE
  go_enter Tryd.func4, Tryd.ntmps4
  go_wp2_with (go_at_call 9; refine (alive_yes _).mono ?_; rintro e w1 ⟨rfl, hb1⟩)
  refine (HM.out _ (HE.out.below hb1)).mono ?_
  rintro e w2 ⟨rfl, hb2⟩
  go_wp2_with fail
  refine (HR.out _).mono ?_
  rintro e w3 ⟨rfl, hb3⟩
  have hB : Below w.heap.size w w3 := (hb1.trans (hb2.mono hb1.size)).trans (hb3.mono (Nat.le_trans hb1.size hb2.size))
  go_wp2_with fail
  refine (num_err 0 (by decide) _ a (HE.out.below hB)).mono ?_
  rintro e w4 ⟨rfl, hb4⟩
  go_wp2
  go_ret
  exact ⟨rfl, hB.trans (hb4.mono hB.size)⟩

theorem mail_law (t : Int) (w : World) (a : Nat → Addr) (hE : Errs w a) (ht : Tab w) :
    Calls Tryd.prog 4 #[.int .i64 t] w fun e w' => e = .returned (.bool true) ∧ Below w.heap.size w w' := by
  by_cases hr : 0 ≤ t ∧ t ≤ 4102444799
  · obtain ⟨y, m, d, h, mi, s, wk, hd, HC, HR⟩ := dates_nat t hr.1 hr.2
    obtain ⟨c, r, e⟩ := mailL_cons y m d h mi s wk
    exact mail_law_in t c r w ht (fun w hw => by rw [← e]; exact mail_yes t y m d h mi s wk w hw hd HC) (fun w => by rw [← e]; exact rmail_yes t y m d h mi s wk w hd HR)
  · exact mail_law_out t w a hE (by omega)

set_option maxHeartbeats 1000000 in
theorem box_law_in (t : Int) (c : UInt8) (r : List UInt8) (w : World)  (ht : Tab w)
    (HM : Hid (∀ w, Tab w → Calls Tryd.prog 18 #[.int .i64 t] w fun e w' => e = .returned (.tuple #[.string ⟨(c :: r).toArray⟩, .nilIface]) ∧ Below w.heap.size w w'))
    (HR : Hid (∀ w, Calls Tryd.prog 19 #[.int .i64 t] w fun e w' => e = .returned (.string ⟨(c :: r).toArray⟩) ∧ Below w.heap.size w w')) :
    Calls Tryd.prog 5 #[.int .i64 t] w fun e w' => e = .returned (.bool true) ∧ Below w.heap.size w w' := by
  have HT : Hid (Tab w) := ht
  clear ht
  go_enter Tryd.func5, Tryd.ntmps5
  go_wp2_with (go_at_call 9; refine (alive_yes _).mono ?_; rintro e w1 ⟨rfl, hb1⟩)
  refine (HM.out _ (HT.out.below hb1)).mono ?_
  rintro e w2 ⟨rfl, hb2⟩
  go_wp2_with fail
  refine (HR.out _).mono ?_
  rintro e w3 ⟨rfl, hb3⟩
  go_wp2
  go_ret
  exact ⟨rfl, (hb1.trans (hb2.mono hb1.size)).trans (hb3.mono (Nat.le_trans hb1.size hb2.size))⟩

set_option maxHeartbeats 1000000 in
theorem box_law_out (t : Int) (w : World) (a : Nat → Addr) (hE : Errs w a) (ht : t < 0 ∨ 4102444799 < t) :
    Calls Tryd.prog 5 #[.int .i64 t] w fun e w' => e = .returned (.bool true) ∧ Below w.heap.size w w' := by
  have HM : Hid (∀ w, Errs w a → Calls Tryd.prog 18 #[.int .i64 t] w fun e w' => e = .returned (.tuple #[.string ⟨#[]⟩, .iface 104 (.pointer (some (a 0)))]) ∧ Below w.heap.size w w') := fun w hE => box_no t w a hE ht
  have HR : Hid (∀ w, Calls Tryd.prog 19 #[.int .i64 t] w fun e w' => e = .returned (.string ⟨#[]⟩) ∧ Below w.heap.size w w') := fun w => rbox_no t w ht
  have HE : Hid (Errs w a) := hE
  clear ht hE
  go_enter Tryd.func5, Tryd.ntmps5
  go_wp2_with (go_at_call 9; refine (alive_yes _).mono ?_; rintro e w1 ⟨rfl, hb1⟩)
  refine (HM.out _ (HE.out.below hb1)).mono ?_
  rintro e w2 ⟨rfl, hb2⟩
  go_wp2_with fail
  refine (HR.out _).mono ?_
  rintro e w3 ⟨rfl, hb3⟩
  have hB : Below w.heap.size w w3 := (hb1.trans (hb2.mono hb1.size)).trans (hb3.mono (Nat.le_trans hb1.size hb2.size))
  go_wp2_with fail
  refine (num_err 0 (by decide) _ a (HE.out.below hB)).mono ?_
  rintro e w4 ⟨rfl, hb4⟩
  go_wp2
  go_ret
  exact ⟨rfl, hB.trans (hb4.mono hB.size)⟩

theorem box_law (t : Int) (w : World) (a : Nat → Addr) (hE : Errs w a) (ht : Tab w) :
    Calls Tryd.prog 5 #[.int .i64 t] w fun e w' => e = .returned (.bool true) ∧ Below w.heap.size w w' := by
  by_cases hr : 0 ≤ t ∧ t ≤ 4102444799
  · obtain ⟨y, m, d, h, mi, s, wk, hd, HC, HR⟩ := dates_nat t hr.1 hr.2
    obtain ⟨c, r, e⟩ := boxL_cons y m d h mi s wk
    exact box_law_in t c r w ht (fun w hw => by rw [← e]; exact box_yes t y m d h mi s wk w hw hd HC) (fun w => by rw [← e]; exact rbox_yes t y m d h mi s wk w hd HR)
  · exact box_law_out t w a hE (by omega)

set_option maxHeartbeats 1000000 in
theorem internal_law_in (t : Int) (c : UInt8) (r l : List UInt8) (w : World)  (ht : Tab w)
    (HM : Hid (∀ w, Tab w → Calls Tryd.prog 20 #[.int .i64 t] w fun e w' => e = .returned (.tuple #[.string ⟨(c :: r).toArray⟩, .nilIface]) ∧ Below w.heap.size w w'))
    (HD : Hid (∀ w, Tab w → Calls Tryd.prog 21 #[.int .i64 t] w fun e w' => e = .returned (.tuple #[.string ⟨l.toArray⟩, .nilIface]) ∧ Below w.heap.size w w'))
    (HR : Hid (∀ w, Calls Tryd.prog 22 #[.int .i64 t] w fun e w' => e = .returned (.string ⟨(c :: r).toArray⟩) ∧ Below w.heap.size w w'))
    (HS : Hid (∀ w, Calls Tryd.prog 23 #[.int .i64 t] w fun e w' => e = .returned (.string ⟨l.toArray⟩) ∧ Below w.heap.size w w')) :
    Calls Tryd.prog 6 #[.int .i64 t] w fun e w' => e = .returned (.bool true) ∧ Below w.heap.size w w' := by
  have HT : Hid (Tab w) := ht
  clear ht
  go_enter Tryd.func6, Tryd.ntmps6
  go_wp2_with (go_at_call 9; refine (alive_yes _).mono ?_; rintro e w1 ⟨rfl, hb1⟩)
  refine (HM.out _ (HT.out.below hb1)).mono ?_
  rintro e w2 ⟨rfl, hb2⟩
  have HB2 : Hid (Below w.heap.size w w2) := hb1.trans (hb2.mono hb1.size)
  go_wp2_with fail
  refine (HD.out _ (HT.out.below HB2.out)).mono ?_
  rintro e w3 ⟨rfl, hb3⟩
  have HB3 : Hid (Below w.heap.size w w3) := HB2.out.trans (hb3.mono HB2.out.size)
  go_wp2_with fail
  refine (HR.out _).mono ?_
  rintro e w4 ⟨rfl, hb4⟩
  have HB4 : Hid (Below w.heap.size w w4) := HB3.out.trans (hb4.mono HB3.out.size)
  go_wp2_with fail
  refine (HS.out _).mono ?_
  rintro e w5 ⟨rfl, hb5⟩
  go_wp2
  go_ret
  exact ⟨rfl, HB4.out.trans (hb5.mono HB4.out.size)⟩

set_option maxHeartbeats 1000000 in
theorem internal_law_out (t : Int) (w : World) (a : Nat → Addr) (hE : Errs w a) (ht : t < 0 ∨ 4102444799 < t) :
    Calls Tryd.prog 6 #[.int .i64 t] w fun e w' => e = .returned (.bool true) ∧ Below w.heap.size w w' := by
  have HM : Hid (∀ w, Errs w a → Calls Tryd.prog 20 #[.int .i64 t] w fun e w' => e = .returned (.tuple #[.string ⟨#[]⟩, .iface 104 (.pointer (some (a 0)))]) ∧ Below w.heap.size w w') := fun w hE => internal_no t w a hE ht
  have HD : Hid (∀ w, Errs w a → Calls Tryd.prog 21 #[.int .i64 t] w fun e w' => e = .returned (.tuple #[.string ⟨#[]⟩, .iface 104 (.pointer (some (a 0)))]) ∧ Below w.heap.size w w') := fun w hE => day_no t w a hE ht
  have HR : Hid (∀ w, Calls Tryd.prog 22 #[.int .i64 t] w fun e w' => e = .returned (.string ⟨#[]⟩) ∧ Below w.heap.size w w') := fun w => rinternal_no t w ht
  have HS : Hid (∀ w, Calls Tryd.prog 23 #[.int .i64 t] w fun e w' => e = .returned (.string ⟨#[]⟩) ∧ Below w.heap.size w w') := fun w => rday_no t w ht
  have HE : Hid (Errs w a) := hE
  clear ht hE
  go_enter Tryd.func6, Tryd.ntmps6
  go_wp2_with (go_at_call 9; refine (alive_yes _).mono ?_; rintro e w1 ⟨rfl, hb1⟩)
  refine (HM.out _ (HE.out.below hb1)).mono ?_
  rintro e w2 ⟨rfl, hb2⟩
  have HB2 : Hid (Below w.heap.size w w2) := hb1.trans (hb2.mono hb1.size)
  go_wp2_with fail
  refine (HD.out _ (HE.out.below HB2.out)).mono ?_
  rintro e w3 ⟨rfl, hb3⟩
  have HB3 : Hid (Below w.heap.size w w3) := HB2.out.trans (hb3.mono HB2.out.size)
  go_wp2_with fail
  refine (HR.out _).mono ?_
  rintro e w4 ⟨rfl, hb4⟩
  have HB4 : Hid (Below w.heap.size w w4) := HB3.out.trans (hb4.mono HB3.out.size)
  go_wp2_with fail
  refine (HS.out _).mono ?_
  rintro e w5 ⟨rfl, hb5⟩
  have HB5 : Hid (Below w.heap.size w w5) := HB4.out.trans (hb5.mono HB4.out.size)
  go_wp2_with fail
  refine (num_err 0 (by decide) _ a (HE.out.below HB5.out)).mono ?_
  rintro e w6 ⟨rfl, hb6⟩
  have HB6 : Hid (Below w.heap.size w w6) := HB5.out.trans (hb6.mono HB5.out.size)
  go_wp2_with fail
  refine (num_err 0 (by decide) _ a (HE.out.below HB6.out)).mono ?_
  rintro e w7 ⟨rfl, hb7⟩
  go_wp2
  go_ret
  exact ⟨rfl, HB6.out.trans (hb7.mono HB6.out.size)⟩

theorem internal_law (t : Int) (w : World) (a : Nat → Addr) (hE : Errs w a) (ht : Tab w) :
    Calls Tryd.prog 6 #[.int .i64 t] w fun e w' => e = .returned (.bool true) ∧ Below w.heap.size w w' := by
  by_cases hr : 0 ≤ t ∧ t ≤ 4102444799
  · obtain ⟨y, m, d, h, mi, s, wk, hd, HC, HR⟩ := dates_nat t hr.1 hr.2
    obtain ⟨c, r, e⟩ := internalL_cons y m d h mi s wk
    exact internal_law_in t c r (dayL y m d h mi s wk) w ht (fun w hw => by rw [← e]; exact internal_yes t y m d h mi s wk w hw hd HC) (fun w hw => day_yes t y m d h mi s wk w hw hd HC) (fun w => by rw [← e]; exact rinternal_yes t y m d h mi s wk w hd HR) (fun w => rday_yes t y m d h mi s wk w hd HR)
  · exact internal_law_out t w a hE (by omega)
end Go.Proofs.YtjddeaeanomdhaaDoor
