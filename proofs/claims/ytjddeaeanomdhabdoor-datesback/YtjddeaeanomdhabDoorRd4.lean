/- The reader of package dates: the fields of a date. -/
import Derived.Test.YtjddeaeanomdhabDoorRd3
namespace Go.Proofs.YtjddeaeanomdhabDoor
open Go.RowKit

section
variable (b : Nat) (r : List UInt8) (y m d h mi s wk a : Int) (w : World)

theorem digits2 (p q n : Nat) (hp : p < 10) (hq : q < 10) (hn : p * 10 + q = n) (k : Rd w b (dg p :: dg q :: r) y m d h mi s wk a) (hl : r.length ≤ 900) :
    Calls Tryd.prog 68 #[.pointer (some ⟨b, 0, none⟩), .int .i64 2] w fun e w' => e = .returned (.int .i64 n) ∧ Mv b w w' ∧ Rd w' b r y m d h mi s wk a := by
  subst hn
  have := digits_ok [p, q] (by simp [hp, hq]) (by simp) b r y m d h mi s wk a w k hl
  simpa [val] using this
theorem digits4 (p q u v n : Nat) (hp : p < 10) (hq : q < 10) (hu : u < 10) (hv : v < 10) (hn : ((p * 10 + q) * 10 + u) * 10 + v = n) (k : Rd w b (dg p :: dg q :: dg u :: dg v :: r) y m d h mi s wk a) (hl : r.length ≤ 900) :
    Calls Tryd.prog 68 #[.pointer (some ⟨b, 0, none⟩), .int .i64 4] w fun e w' => e = .returned (.int .i64 n) ∧ Mv b w w' ∧ Rd w' b r y m d h mi s wk a := by
  subst hn
  have := digits_ok [p, q, u, v] (by simp [hp, hq, hu, hv]) (by simp) b r y m d h mi s wk a w k hl
  simpa [val] using this

set_option maxHeartbeats 1000000 in
theorem month_ok (j : Nat) (hj : j < 12) (k : Rd w b (mon (j + 1 : Int) ++ r) y m d h mi s wk a) (hl : r.length ≤ 900) :
    Calls Tryd.prog 29 #[.pointer (some ⟨b, 0, none⟩)] w fun e w' => e = .returned (.tuple #[]) ∧ Mv b w w' ∧ Rd w' b r y (j + 1) d h mi s wk a := by
  have K : Hid (Rd w b (mon (j + 1 : Int) ++ r) y m d h mi s wk a) := k
  clear k
  go_enter Tryd.func29, Tryd.ntmps29
  go_wp2_with fail
  refine (name_mon j hj b r y m d h mi s wk a _ K.out hl).mono ?_
  rintro e w1 ⟨rfl, hm1, hr1⟩
  have hc := Blk.cell hr1
  have hf := Blk.frozen hr1
  unfold rdr at hc
  have HM : Hid (Mv b w w1) := hm1
  have HR : Hid (Rd w1 b r y m d h mi s wk a) := hr1
  clear hm1 hr1
  go_wp2
  go_end0
  exact ⟨rfl, HM.out.setCell 2 _, Blk.set HR.out 2 _⟩

set_option maxHeartbeats 1000000 in
theorem year_ok (p q u v n : Nat) (hp : p < 10) (hq : q < 10) (hu : u < 10) (hv : v < 10) (hn : Hid (((p * 10 + q) * 10 + u) * 10 + v = n)) (k : Rd w b (dg p :: dg q :: dg u :: dg v :: r) y m d h mi s wk a) (hl : r.length ≤ 900) :
    Calls Tryd.prog 30 #[.pointer (some ⟨b, 0, none⟩)] w fun e w' => e = .returned (.tuple #[]) ∧ Mv b w w' ∧ Rd w' b r n m d h mi s wk a := by
  have K : Hid (Rd w b (dg p :: dg q :: dg u :: dg v :: r) y m d h mi s wk a) := k
  clear k
  go_enter Tryd.func30, Tryd.ntmps30
  go_wp2_with fail
  refine (digits4 b r y m d h mi s wk a _ p q u v n hp hq hu hv hn.out K.out hl).mono ?_
  rintro e w1 ⟨rfl, hm1, hr1⟩
  have hc := Blk.cell hr1
  have hf := Blk.frozen hr1
  unfold rdr at hc
  have HM : Hid (Mv b w w1) := hm1
  have HR : Hid (Rd w1 b r y m d h mi s wk a) := hr1
  clear hm1 hr1
  go_wp2
  go_end0
  exact ⟨rfl, HM.out.setCell 1 _, Blk.set HR.out 1 _⟩

set_option maxHeartbeats 1000000 in
theorem hm_ok (p q u v n o : Nat) (hp : p < 10) (hq : q < 10) (hu : u < 10) (hv : v < 10) (hn : Hid (p * 10 + q = n)) (ho : Hid (u * 10 + v = o)) (k : Rd w b (dg p :: dg q :: 58 :: dg u :: dg v :: r) y m d h mi s wk a) (hl : r.length ≤ 800) :
    Calls Tryd.prog 31 #[.pointer (some ⟨b, 0, none⟩)] w fun e w' => e = .returned (.tuple #[]) ∧ Mv b w w' ∧ Rd w' b r y m d n o s wk a := by
  have K : Hid (Rd w b (dg p :: dg q :: 58 :: dg u :: dg v :: r) y m d h mi s wk a) := k
  clear k
  go_enter Tryd.func31, Tryd.ntmps31
  go_wp2_with fail
  refine (digits2 b (58 :: dg u :: dg v :: r) y m d h mi s wk a _ p q n hp hq hn.out K.out (by simp; omega)).mono ?_
  rintro e w1 ⟨rfl, hm1, hr1⟩
  have hc1 := Blk.cell hr1
  have hf1 := Blk.frozen hr1
  unfold rdr at hc1
  have HR1 : Hid (Rd w1 b (58 :: dg u :: dg v :: r) y m d h mi s wk a) := hr1
  have HM1 : Hid (Mv b w w1) := hm1
  clear hm1 hr1
  go_wp2_with fail
  refine (mark_ok b 58 (dg u :: dg v :: r) y m d n mi s wk a _ (Blk.set HR1.out 4 _) (by simp; omega)).mono ?_
  rintro e w2 ⟨rfl, hm2, hr2⟩
  have hc2 := Blk.cell hr2
  have hf2 := Blk.frozen hr2
  unfold rdr at hc2
  have HR2 : Hid (Rd w2 b (dg u :: dg v :: r) y m d n mi s wk a) := hr2
  have HM2 : Hid (Mv b w w2) := (HM1.out.setCell 4 _).trans hm2
  clear hm2 hr2
  go_wp2_with fail
  refine (digits2 b r y m d n mi s wk a _ u v o hu hv ho.out HR2.out (by omega)).mono ?_
  rintro e w3 ⟨rfl, hm3, hr3⟩
  have hc3 := Blk.cell hr3
  have hf3 := Blk.frozen hr3
  unfold rdr at hc3
  have HR3 : Hid (Rd w3 b r y m d n mi s wk a) := hr3
  have HM3 : Hid (Mv b w w3) := HM2.out.trans hm3
  clear hm3 hr3
  go_wp2
  go_end0
  exact ⟨rfl, HM3.out.setCell 5 _, Blk.set HR3.out 5 _⟩

set_option maxHeartbeats 1000000 in
theorem second_ok (p q n : Nat) (hp : p < 10) (hq : q < 10) (hn : Hid (p * 10 + q = n)) (k : Rd w b (58 :: dg p :: dg q :: r) y m d h mi s wk a) (hl : r.length ≤ 800) :
    Calls Tryd.prog 33 #[.pointer (some ⟨b, 0, none⟩)] w fun e w' => e = .returned (.tuple #[]) ∧ Mv b w w' ∧ Rd w' b r y m d h mi n wk a := by
  have K : Hid (Rd w b (58 :: dg p :: dg q :: r) y m d h mi s wk a) := k
  clear k
  go_enter Tryd.func33, Tryd.ntmps33
  go_wp2_with fail
  refine (mark_ok b 58 (dg p :: dg q :: r) y m d h mi s wk a _ K.out (by simp; omega)).mono ?_
  rintro e w1 ⟨rfl, hm1, hr1⟩
  have hc1 := Blk.cell hr1
  have hf1 := Blk.frozen hr1
  unfold rdr at hc1
  have HR1 : Hid (Rd w1 b (dg p :: dg q :: r) y m d h mi s wk a) := hr1
  have HM1 : Hid (Mv b w w1) := hm1
  clear hm1 hr1
  go_wp2_with fail
  refine (digits2 b r y m d h mi s wk a _ p q n hp hq hn.out HR1.out (by omega)).mono ?_
  rintro e w2 ⟨rfl, hm2, hr2⟩
  have hc2 := Blk.cell hr2
  have hf2 := Blk.frozen hr2
  unfold rdr at hc2
  have HR2 : Hid (Rd w2 b r y m d h mi s wk a) := hr2
  have HM2 : Hid (Mv b w w2) := HM1.out.trans hm2
  clear hm2 hr2
  go_wp2
  go_end0
  exact ⟨rfl, HM2.out.setCell 6 _, Blk.set HR2.out 6 _⟩

set_option maxHeartbeats 1000000 in
theorem zone_ok (k : Rd w b (43 :: dg 0 :: dg 0 :: dg 0 :: dg 0 :: r) y m d h mi s wk a) (hl : r.length ≤ 800) :
    Calls Tryd.prog 34 #[.pointer (some ⟨b, 0, none⟩)] w fun e w' => e = .returned (.tuple #[]) ∧ Mv b w w' ∧ Rd w' b r y m d h mi s wk 0 := by
  have K : Hid (∀ w', w' = w → Rd w' b (43 :: dg 0 :: dg 0 :: dg 0 :: dg 0 :: r) y m d h mi s wk a) := fun w' e => by subst e; exact k
  clear k
  go_enter Tryd.func34, Tryd.ntmps34
  go_wp2_with (go_at_call 32; refine (at_any b 43 _ y m d h mi s wk a _ _ (K.out _ rfl)).mono ?_; rintro e w' ⟨rfl, hw⟩; obtain rfl := hw.symm)
  refine (skip1 b 43 (dg 0 :: dg 0 :: dg 0 :: dg 0 :: r) y m d h mi s wk a _ (K.out _ rfl) (by simp; omega)).mono ?_
  rintro e w1 ⟨rfl, hm1, hr1⟩
  have hc1 := Blk.cell hr1
  have hf1 := Blk.frozen hr1
  unfold rdr at hc1
  have HR1 : Hid (Rd w1 b (dg 0 :: dg 0 :: dg 0 :: dg 0 :: r) y m d h mi s wk a) := hr1
  have HM1 : Hid (Mv b w w1) := hm1
  clear hm1 hr1
  go_wp2_with fail
  refine (digits2 b (dg 0 :: dg 0 :: r) y m d h mi s wk a _ 0 0 0 (by omega) (by omega) rfl HR1.out (by simp; omega)).mono ?_
  rintro e w2 ⟨rfl, hm2, hr2⟩
  have hc2 := Blk.cell hr2
  have hf2 := Blk.frozen hr2
  unfold rdr at hc2
  have HR2 : Hid (Rd w2 b (dg 0 :: dg 0 :: r) y m d h mi s wk a) := hr2
  have HM2 : Hid (Mv b w w2) := HM1.out.trans hm2
  clear hm2 hr2
  go_wp2_with fail
  refine (digits2 b r y m d h mi s wk a _ 0 0 0 (by omega) (by omega) rfl HR2.out (by omega)).mono ?_
  rintro e w3 ⟨rfl, hm3, hr3⟩
  have hc3 := Blk.cell hr3
  have hf3 := Blk.frozen hr3
  unfold rdr at hc3
  have HR3 : Hid (Rd w3 b r y m d h mi s wk a) := hr3
  have HM3 : Hid (Mv b w w3) := HM2.out.trans hm3
  clear hm3 hr3
  go_wp2
  go_end0
  exact ⟨rfl, HM3.out.setCell 8 _, Blk.set HR3.out 8 _⟩
end
end Go.Proofs.YtjddeaeanomdhabDoor
