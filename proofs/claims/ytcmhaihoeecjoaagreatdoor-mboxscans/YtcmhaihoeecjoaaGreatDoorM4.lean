/- Scan and Message of package mbox; the chapter's example. -/
import Derived.Test.YtcmhaihoeecjoaaGreatDoorM3
import Derived.Test.YtcmhaihoeecjoaaGreatDoorM1
import Derived.Test.YtcmhaihoeecjoaaGreatDoorM0
import Derived.Test.YtcmhaihoeecjoaaGreatDoorNum
namespace Go.Proofs.YtcmhaihoeecjoaaGreatDoor
open Go.RowKit Go.Shelf
def ScOut (s : List UInt8) (a : Nat → Addr) (w : World) (e : Ending) (w' : World) : Prop := Below w.heap.size w w' ∧ match scanV s with
      | some xs => ∃ v, e = .returned (.tuple #[v, .nilIface]) ∧ Sps w.heap.size w' v xs
      | none => e = .returned (.tuple #[.slice none 0 0, errV a 1])
set_option maxHeartbeats 1000000 in
theorem scan_any (s : List UInt8) (w : World) (a : Nat → Addr) (hs : s.length ≤ 1000000) (hE : scanV s = none → Errs w a) :
    Calls Tryz.prog 13 #[.string ⟨s.toArray⟩] w (ScOut s a w) := by
  have HS := hide (spansOf_any s w hs)
  cases hv : scanV s with
  | some xs =>
    have HV := hide hv
    clear hE hv
    go_enter Tryz.func13, Tryz.ntmps13
    go_wp2_with (first
      | (go_at_call 29; refine HS.out.mono ?_; rintro e w1 ⟨hb1, hm⟩; rw [HV.out] at hm; obtain ⟨v, rfl, hsp⟩ := hm; replace hb1 := hide hb1; replace hsp := hide hsp))
    go_ret2
    refine ⟨hb1.out, ?_⟩
    rw [HV.out]
    exact ⟨_, rfl, hsp.out⟩
  | none =>
    have HV := hide hv
    have HE := hide (hE hv)
    clear hE hv
    go_enter Tryz.func13, Tryz.ntmps13
    go_wp2_with (first
      | (go_at_call 29; refine HS.out.mono ?_; rintro e w1 ⟨hb1, hm⟩; rw [HV.out] at hm; obtain rfl := hm
         have hc1 : w1.cell? ⟨1, 0, none⟩ = some (errV a 1) := (HE.out.below hb1).cell 1 (by decide)
         unfold errV at hc1
         replace hb1 := hide hb1))
    go_region
    go_wp2
    go_ret2
    refine ⟨hb1.out.drew, ?_⟩
    rw [HV.out]
    rfl
/-- A span that stands in the file. -/
def inB (s : List UInt8) (b e : Int) : Bool := decide (0 ≤ b ∧ b ≤ e ∧ e ≤ (s.length : Int))
set_option maxHeartbeats 1000000 in
theorem message_no (s : List UInt8) (h b e : Int) (w : World) (a : Nat → Addr) (hE : Errs w a) (hn : inB s b e = false) :
    Calls Tryz.prog 17 #[.string ⟨s.toArray⟩, .agg #[.int .i64 h, .int .i64 b, .int .i64 e]] w fun x w' => x = .returned (.tuple #[.string ⟨#[]⟩, errV a 0]) ∧ Below w.heap.size w w' := by
  have hsz := size_lit s
  have hc : (w.alloc (.cells #[.int .i64 h, .int .i64 b, .int .i64 e] 42)).cell? ⟨0, 0, none⟩ = some (errV a 0) := (hE.below ((Below.refl _ _).alloc (Nat.le_refl _) _)).cell 0 (by decide)
  unfold errV at hc
  have hn' := of_decide_eq_false hn
  clear hn hE
  by_cases h1 : b < 0
  · clear hn'
    go_enter Tryz.func17, Tryz.ntmps17
    go_wp2
    go_region
    go_wp2
    go_ret2
    exact ⟨rfl, ((Below.refl _ _).alloc (Nat.le_refl _) _).drew⟩
  · by_cases h2 : e < b
    · clear hn'
      go_enter Tryz.func17, Tryz.ntmps17
      go_wp2
      go_region
      go_wp2
      go_ret2
      exact ⟨rfl, ((Below.refl _ _).alloc (Nat.le_refl _) _).drew⟩
    · have h3 : (s.length : Int) < e := by omega
      clear hn'
      go_enter Tryz.func17, Tryz.ntmps17
      go_wp2
      go_region
      go_wp2
      go_ret2
      exact ⟨rfl, ((Below.refl _ _).alloc (Nat.le_refl _) _).drew⟩
set_option maxHeartbeats 1000000 in
theorem message_in (s : List UInt8) (h : Int) (b e : Nat) (t : List UInt8) (v1 v2 : Value) (w : World) (h1 : b ≤ e) (h2 : e ≤ s.length) (ht : (s.drop b).take (e - b) = t)
    (HD : Hid (∀ w', Below w.heap.size w w' → Calls Tryz.prog 31 #[.string ⟨t.toArray⟩] w' fun x w'' => x = .returned (.tuple #[v1, v2]) ∧ Below w'.heap.size w' w'')) :
    Calls Tryz.prog 17 #[.string ⟨s.toArray⟩, .agg #[.int .i64 h, .int .i64 b, .int .i64 e]] w fun x w' => x = .returned (.tuple #[v1, v2]) ∧ Below w.heap.size w w' := by
  have hsl := fun w => slice_str s b e h1 h2 w
  rw [ht] at hsl
  have h0' : ¬ (b : Int) < 0 := by omega
  have h1' : ¬ (e : Int) < (b : Int) := by omega
  have h2' : ¬ (s.length : Int) < (e : Int) := by omega
  clear ht
  go_enter Tryz.func17, Tryz.ntmps17
  go_wp2_with (first
    | (go_at_call 31; refine (HD.out _ ((Below.refl _ _).alloc (Nat.le_refl _) _)).mono ?_; rintro x w1 ⟨rfl, hb1⟩))
  go_ret2
  exact ⟨rfl, ((Below.refl _ _).alloc (Nat.le_refl _) _).trans (hb1.mono (by simp))⟩
theorem decV_or (s : List UInt8) (v : Value) : ∃ m u, decT s v = .tuple #[.string ⟨m⟩, u] := by
  unfold decT
  cases decV s with
  | none => exact ⟨_, _, rfl⟩
  | some m => exact ⟨_, _, rfl⟩
/-- The chapter's example. -/
def exT : List UInt8 := [70, 114, 111, 109, 32, 97, 64, 98, 32, 84, 104, 117, 32, 74, 97, 110, 32, 32, 49, 32, 48, 48, 58, 48, 48, 58, 48, 48, 32, 49, 57, 55, 48, 10, 120, 10]
theorem ex_sep : sepT [97, 64, 98] 0 = [70, 114, 111, 109, 32, 97, 64, 98, 32, 84, 104, 117, 32, 74, 97, 110, 32, 32, 49, 32, 48, 48, 58, 48, 48, 58, 48, 48, 32, 49, 57, 55, 48, 10] := by decide +kernel
theorem ex_enc : encL [120] = [120, 10] := by decide +kernel
theorem ex_scan : scanV exT = some [⟨0, 34, 36⟩] := by rfl
end Go.Proofs.YtcmhaihoeecjoaaGreatDoor
