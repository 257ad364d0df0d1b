/- The reader of package dates: days, blanks, and the end of a text. -/
import Derived.Test.YtjddeaeanomdhabDoorRd4
import Derived.Deep.RegionWith
namespace Go.Proofs.YtjddeaeanomdhabDoor
open Go.RowKit

theorem wrap_small (n : Int) (h0 : 0 ≤ n) (h1 : n ≤ 1000000) : IntKind.i64.wrap n = n := by
  rw [IntKind.wrap_i64]
  omega

section
variable (b : Nat) (r : List UInt8) (y m d h mi s wk a : Int) (w : World)

theorem digit_cells (n : Nat) (hn : n < 10) (k : Rd w b (dg n :: r) y m d h mi s wk a) (hl : r.length ≤ 1000) :
    Calls Tryd.prog 66 #[.pointer (some ⟨b, 0, none⟩)] w fun e w' => e = .returned (.int .i64 n) ∧ Mv b w w' ∧ Hid (Rd w' b r y m d h mi s wk a) ∧ (∀ i, w'.cell? ⟨b, i, none⟩ = (#[.string ⟨r.toArray⟩, .int .i64 y, .int .i64 m, .int .i64 d, .int .i64 h, .int .i64 mi, .int .i64 s, .int .i64 wk, .int .i64 a] : Array Value)[i]?) ∧ ∀ i, w'.frozen? ⟨b, i, none⟩ = false := by
  refine (digit_ok b r y m d h mi s wk a w n hn k hl).mono ?_
  rintro e w' ⟨rfl, hm, hr⟩
  exact ⟨rfl, hm, hr, Blk.cell hr, Blk.frozen hr⟩

set_option maxHeartbeats 1000000 in
theorem day1_ok (n : Nat) (hn : n < 10) (c : UInt8) (hc0 : (c.toNat : Int) < 48) (k : Rd w b (dg n :: c :: r) y m d h mi s wk a) (hl : r.length ≤ 800) :
    Calls Tryd.prog 27 #[.pointer (some ⟨b, 0, none⟩)] w fun e w' => e = .returned (.tuple #[]) ∧ Mv b w w' ∧ Rd w' b (c :: r) y m n h mi s wk a := by
  have K : Hid (Rd w b (dg n :: c :: r) y m d h mi s wk a) := k
  clear k
  go_enter Tryd.func27, Tryd.ntmps27
  go_wp2_with fail
  refine (digit_ok b (c :: r) y m d h mi s wk a _ n hn K.out (by simp; omega)).mono ?_
  rintro e w1 ⟨rfl, hm1, hr1⟩
  have hc1 := Blk.cell hr1
  have hf1 := Blk.frozen hr1
  unfold rdr at hc1
  have HR1 : Hid (Rd w1 b (c :: r) y m d h mi s wk a) := hr1
  have HM1 : Hid (Mv b w w1) := hm1
  clear hm1 hr1
  go_wp2_with fail
  refine (atDigit_no b c r y m n h mi s wk a _ (Blk.set HR1.out 3 _) (Or.inl hc0)).mono ?_
  rintro e w' ⟨rfl, hw⟩
  obtain rfl := hw.symm
  go_wp2
  go_end0
  exact ⟨rfl, HM1.out.setCell 3 _, Blk.set HR1.out 3 _⟩

set_option maxHeartbeats 1000000 in
theorem day2_ok (p q n : Nat) (hp : p < 10) (hq : q < 10) (hn : Hid ((p : Int) * 10 + q = n)) (k : Rd w b (dg p :: dg q :: r) y m d h mi s wk a) (hl : r.length ≤ 800) :
    Calls Tryd.prog 27 #[.pointer (some ⟨b, 0, none⟩)] w fun e w' => e = .returned (.tuple #[]) ∧ Mv b w w' ∧ Rd w' b r y m n h mi s wk a := by
  have K : Hid (Rd w b (dg p :: dg q :: r) y m d h mi s wk a) := k
  clear k
  have eq := dg_toNat q hq
  have h0 : 48 ≤ ((dg q).toNat : Int) := by omega
  have h1 : ((dg q).toNat : Int) ≤ 57 := by omega
  clear eq
  go_enter Tryd.func27, Tryd.ntmps27
  go_wp2_with fail
  refine (digit_ok b (dg q :: r) y m d h mi s wk a _ p hp K.out (by simp; omega)).mono ?_
  rintro e w1 ⟨rfl, hm1, hr1⟩
  have hc1 := Blk.cell hr1
  have hf1 := Blk.frozen hr1
  unfold rdr at hc1
  have HR1 : Hid (Rd w1 b (dg q :: r) y m d h mi s wk a) := hr1
  have HM1 : Hid (Mv b w w1) := hm1
  clear hm1 hr1
  go_wp2_with fail
  refine (atDigit_yes b (dg q) r y m p h mi s wk a _ (Blk.set HR1.out 3 _) h0 h1).mono ?_
  rintro e w' ⟨rfl, hw⟩
  obtain rfl := hw.symm
  clear h0 h1
  have HR2 : Hid (Rd (w1.setCell ⟨b, 3, none⟩ (.int .i64 p)) b (dg q :: r) y m p h mi s wk a) := Blk.set HR1.out 3 _
  have HM2 : Hid (Mv b w (w1.setCell ⟨b, 3, none⟩ (.int .i64 p))) := HM1.out.setCell 3 _
  have hc2 := Blk.cell HR2.out
  have hf2 := Blk.frozen HR2.out
  unfold rdr at hc2
  generalize w1.setCell ⟨b, 3, none⟩ (.int .i64 p) = w2 at *
  go_wp2_with fail
  go_region_with (go_at_call 66; refine (digit_cells b r y m p h mi s wk a _ q hq ?_ ?_).mono ?_; exact HR2.out; omega; rintro e w3 ⟨rfl, hm3, hr3, hc3, hf3⟩)
  all_goals
    go_wp2
    go_end0
    refine ⟨rfl, (HM2.out.trans (Mv.of_drew hm3)).setCell 3 _, ?_⟩
    rw [← hn.out, wrap_small ((p : Int) * 10) (by omega) (by omega), wrap_small ((p : Int) * 10 + q) (by omega) (by omega)]
    exact Blk.set hr3.out 3 _

set_option maxHeartbeats 1000000 in
theorem dayB_ok (n : Nat) (hn : n < 10) (k : Rd w b (32 :: dg n :: r) y m d h mi s wk a) (hl : r.length ≤ 800) :
    Calls Tryd.prog 53 #[.pointer (some ⟨b, 0, none⟩)] w fun e w' => e = .returned (.tuple #[]) ∧ Mv b w w' ∧ Rd w' b r y m n h mi s wk a := by
  have K : Hid (Rd w b (32 :: dg n :: r) y m d h mi s wk a) := k
  clear k
  go_enter Tryd.func53, Tryd.ntmps53
  go_wp2_with (go_at_call 32; refine (at_any b 32 _ y m d h mi s wk a _ _ K.out).mono ?_; rintro e w' ⟨rfl, hw⟩; obtain rfl := hw.symm)
  refine (mark_ok b 32 (dg n :: r) y m d h mi s wk a _ K.out (by simp; omega)).mono ?_
  rintro e w1 ⟨rfl, hm1, hr1⟩
  have hc1 := Blk.cell hr1
  have hf1 := Blk.frozen hr1
  unfold rdr at hc1
  have HR1 : Hid (Rd w1 b (dg n :: r) y m d h mi s wk a) := hr1
  have HM1 : Hid (Mv b w w1) := hm1
  clear hm1 hr1
  go_wp2_with fail
  refine (digit_ok b r y m d h mi s wk a _ n hn HR1.out (by omega)).mono ?_
  rintro e w2 ⟨rfl, hm2, hr2⟩
  have hc2 := Blk.cell hr2
  have hf2 := Blk.frozen hr2
  unfold rdr at hc2
  have HR2 : Hid (Rd w2 b r y m d h mi s wk a) := hr2
  have HM2 : Hid (Mv b w w2) := HM1.out.trans hm2
  clear hm2 hr2
  go_wp2
  go_end0
  exact ⟨rfl, HM2.out.setCell 3 _, Blk.set HR2.out 3 _⟩

set_option maxHeartbeats 1000000 in
theorem dayT_ok (p q n : Nat) (hp : p < 10) (hq : q < 10) (hp1 : 1 ≤ p) (hn : Hid (p * 10 + q = n)) (k : Rd w b (dg p :: dg q :: r) y m d h mi s wk a) (hl : r.length ≤ 800) :
    Calls Tryd.prog 53 #[.pointer (some ⟨b, 0, none⟩)] w fun e w' => e = .returned (.tuple #[]) ∧ Mv b w w' ∧ Rd w' b r y m n h mi s wk a := by
  have K : Hid (Rd w b (dg p :: dg q :: r) y m d h mi s wk a) := k
  clear k
  have eq := dg_toNat p hp
  have h0 : (((dg p).toNat : Int) == 32) = false := by rw [beq_eq_false_iff_ne]; omega
  have h1 : (((dg p).toNat : Int) == 48) = false := by rw [beq_eq_false_iff_ne]; omega
  clear eq
  go_enter Tryd.func53, Tryd.ntmps53
  go_wp2_with (go_at_call 32; refine (at_any b (dg p) _ y m d h mi s wk a _ _ K.out).mono ?_; rintro e w' ⟨rfl, hw⟩; obtain rfl := hw.symm)
  refine (digits2 b r y m d h mi s wk a _ p q n hp hq hn.out K.out (by omega)).mono ?_
  rintro e w1 ⟨rfl, hm1, hr1⟩
  have hc1 := Blk.cell hr1
  have hf1 := Blk.frozen hr1
  unfold rdr at hc1
  have HR1 : Hid (Rd w1 b r y m d h mi s wk a) := hr1
  have HM1 : Hid (Mv b w w1) := hm1
  clear hm1 hr1
  go_wp2
  go_end0
  exact ⟨rfl, HM1.out.setCell 3 _, Blk.set HR1.out 3 _⟩

set_option maxHeartbeats 1000000 in
theorem atBlank_any (c : UInt8) (k : Rd w b (c :: r) y m d h mi s wk a) :
    Calls Tryd.prog 63 #[.pointer (some ⟨b, 0, none⟩)] w fun e w' => e = .returned (.bool (((c.toNat : Int) == 32) || ((c.toNat : Int) == 9))) ∧ w' = w := by
  have K : Hid (Rd w b (c :: r) y m d h mi s wk a) := k
  clear k
  cases h1 : ((c.toNat : Int) == 32)
  · go_enter Tryd.func63, Tryd.ntmps63
    go_wp2_with (go_at_call 32; refine (at_any b c _ y m d h mi s wk a _ _ K.out).mono ?_; rintro e w' ⟨rfl, hw⟩; obtain rfl := hw.symm)
    go_ret
    exact ⟨rfl, rfl⟩
  · go_enter Tryd.func63, Tryd.ntmps63
    go_wp2_with (go_at_call 32; refine (at_any b c _ y m d h mi s wk a _ _ K.out).mono ?_; rintro e w' ⟨rfl, hw⟩; obtain rfl := hw.symm)
    go_ret
    exact ⟨rfl, rfl⟩
theorem atBlank_nil (k : Rd w b [] y m d h mi s wk a) :
    Calls Tryd.prog 63 #[.pointer (some ⟨b, 0, none⟩)] w fun e w' => e = .returned (.bool false) ∧ w' = w := by
  have K : Hid (Rd w b [] y m d h mi s wk a) := k
  clear k
  go_enter Tryd.func63, Tryd.ntmps63
  go_wp2_with (go_at_call 32; refine (at_nil b y m d h mi s wk a _ _ K.out).mono ?_; rintro e w' ⟨rfl, hw⟩; obtain rfl := hw.symm)
  go_ret
  exact ⟨rfl, rfl⟩

set_option maxHeartbeats 1000000 in
theorem skipBlanks0 (c : UInt8) (k : Rd w b (c :: r) y m d h mi s wk a) (h1 : ((c.toNat : Int) == 32) = false) (h2 : ((c.toNat : Int) == 9) = false) :
    Calls Tryd.prog 24 #[.pointer (some ⟨b, 0, none⟩)] w fun e w' => e = .returned (.tuple #[]) ∧ w' = w := by
  have K : Hid (Rd w b (c :: r) y m d h mi s wk a) := k
  clear k
  go_enter Tryd.func24, Tryd.ntmps24
  go_wp2
  refine wp_loop_rounds 1 ?_
  rw [rounds_succ]
  go_wp2_with (go_at_call 63; refine (atBlank_any b r y m d h mi s wk a _ c K.out).mono ?_; rintro e w' ⟨rfl, hw⟩; obtain rfl := hw.symm)
  go_end0
  exact ⟨rfl, rfl⟩
set_option maxHeartbeats 1000000 in
theorem skipBlanksNil (k : Rd w b [] y m d h mi s wk a) :
    Calls Tryd.prog 24 #[.pointer (some ⟨b, 0, none⟩)] w fun e w' => e = .returned (.tuple #[]) ∧ w' = w := by
  have K : Hid (Rd w b [] y m d h mi s wk a) := k
  clear k
  go_enter Tryd.func24, Tryd.ntmps24
  go_wp2
  refine wp_loop_rounds 1 ?_
  rw [rounds_succ]
  go_wp2_with (go_at_call 63; refine (atBlank_nil b y m d h mi s wk a _ K.out).mono ?_; rintro e w' ⟨rfl, hw⟩; obtain rfl := hw.symm)
  go_end0
  exact ⟨rfl, rfl⟩
set_option maxHeartbeats 1000000 in
theorem skipBlanks1 (c : UInt8) (k : Rd w b (32 :: c :: r) y m d h mi s wk a) (h1 : ((c.toNat : Int) == 32) = false) (h2 : ((c.toNat : Int) == 9) = false) (hl : r.length ≤ 800) :
    Calls Tryd.prog 24 #[.pointer (some ⟨b, 0, none⟩)] w fun e w' => e = .returned (.tuple #[]) ∧ Mv b w w' ∧ Rd w' b (c :: r) y m d h mi s wk a := by
  have K : Hid (Rd w b (32 :: c :: r) y m d h mi s wk a) := k
  clear k
  go_enter Tryd.func24, Tryd.ntmps24
  go_wp2
  refine wp_loop_rounds 2 ?_
  rw [rounds_succ]
  go_wp2_with (go_at_call 63; refine (atBlank_any b (c :: r) y m d h mi s wk a _ 32 K.out).mono ?_; rintro e w' ⟨rfl, hw⟩; obtain rfl := hw.symm)
  refine (skip1 b 32 (c :: r) y m d h mi s wk a _ K.out (by simp; omega)).mono ?_
  rintro e w1 ⟨rfl, hm1, hr1⟩
  have hc1 := Blk.cell hr1
  have hf1 := Blk.frozen hr1
  unfold rdr at hc1
  have HR1 : Hid (Rd w1 b (c :: r) y m d h mi s wk a) := hr1
  have HM1 : Hid (Mv b w w1) := hm1
  clear hm1 hr1
  go_wp2_with fail
  rw [rounds_succ]
  go_wp2_with (go_at_call 63; refine (atBlank_any b r y m d h mi s wk a _ c HR1.out).mono ?_; rintro e w' ⟨rfl, hw⟩; obtain rfl := hw.symm)
  go_end0
  exact ⟨rfl, HM1.out, HR1.out⟩
end
end Go.Proofs.YtjddeaeanomdhabDoor
