/- The reader of package dates, whatever the text: names. -/
import Derived.Test.YtabncmepkoiheaaDoorRp1
import Derived.Test.YtabncmepkoiheaaDoorCalm
import Derived.Test.YtabncmepkoiheaaDoorShelf
import Derived.Deep.QuietTactic
import Derived.BigQuiet
namespace Go.Proofs.YtabncmepkoiheaaDoor
open Go.RowKit
/-- Does x begin with p? -/
def isPre (x p : List UInt8) : Bool := Lib.hasPrefix x p
theorem hasPrefix_list (x p : List UInt8) (w : World) : Calls Tryd.prog 58 #[.string ⟨x.toArray⟩, .string ⟨p.toArray⟩] w fun e w' => e = .returned (.bool (isPre x p)) ∧ w' = w := by
  unfold isPre
  simpa using Tryd.strings_HasPrefix ⟨x.toArray⟩ ⟨p.toArray⟩ w
theorem isPre_split {x p : List UInt8} (h : isPre x p = true) : x = p ++ x.drop p.length := by
  unfold isPre Lib.hasPrefix at h
  obtain ⟨t, rfl⟩ := List.isPrefixOf_iff_prefix.1 h
  simp
/-- The first name from the i-th on that l begins with, of k names. -/
def findPre (tab : Nat → List UInt8) (l : List UInt8) : Nat → Nat → Option Nat
  | 0, _ => none
  | k + 1, i => if isPre l (tab i) then some i else findPre tab l k (i + 1)
def monB : List UInt8 := [74, 97, 110, 70, 101, 98, 77, 97, 114, 65, 112, 114, 77, 97, 121, 74, 117, 110, 74, 117, 108, 65, 117, 103, 83, 101, 112, 79, 99, 116, 78, 111, 118, 68, 101, 99]
def wkdB : List UInt8 := [83, 117, 110, 77, 111, 110, 84, 117, 101, 87, 101, 100, 84, 104, 117, 70, 114, 105, 83, 97, 116]
def nameT (names : List UInt8) (j : Nat) : List UInt8 := (names.drop (3 * j)).take 3
/-- The step that takes a name: its place. -/
def nameF (names : List UInt8) (σ : RS) : Option (Nat × RS) := (findPre (nameT names) σ.l (names.length / 3) 0).map fun j => (j, { σ with l := σ.l.drop 3 })
set_option maxHeartbeats 2000000 in
theorem nameAt_mon (k : Nat) (hk : k < 12) (w : World) :
    Calls Tryd.prog 59 #[.string ⟨#[74, 97, 110, 70, 101, 98, 77, 97, 114, 65, 112, 114, 77, 97, 121, 74, 117, 110, 74, 117, 108, 65, 117, 103, 83, 101, 112, 79, 99, 116, 78, 111, 118, 68, 101, 99]⟩, .int .i64 k] w fun e w' => e = .returned (.string ⟨(nameT monB k).toArray⟩) ∧ w' = w := by
  have hm : k = 0 ∨ k = 1 ∨ k = 2 ∨ k = 3 ∨ k = 4 ∨ k = 5 ∨ k = 6 ∨ k = 7 ∨ k = 8 ∨ k = 9 ∨ k = 10 ∨ k = 11 := by omega
  clear hk
  rcases hm with rfl | rfl | rfl | rfl | rfl | rfl | rfl | rfl | rfl | rfl | rfl | rfl
  all_goals
    go_enter Tryd.func59, Tryd.ntmps59
    go_wp2
    go_ret
    exact ⟨by kernel_rfl, rfl⟩
theorem three_mon (j : Nat) (hj : j < 12) : ∃ c0 c1 c2, nameT monB j = [c0, c1, c2] := by
  have hm : j = 0 ∨ j = 1 ∨ j = 2 ∨ j = 3 ∨ j = 4 ∨ j = 5 ∨ j = 6 ∨ j = 7 ∨ j = 8 ∨ j = 9 ∨ j = 10 ∨ j = 11 := by omega
  clear hj
  rcases hm with rfl | rfl | rfl | rfl | rfl | rfl | rfl | rfl | rfl | rfl | rfl | rfl <;> exact ⟨_, _, _, rfl⟩
set_option maxRecDepth 20000 in
set_option maxHeartbeats 1000000 in
theorem name_mon_out (p : Addr) (b : Nat) (w : World) (σ : RS) (hF : EF w b p) (k : RdS w b σ) (hl : σ.l.length ≤ 900) :
    Calls Tryd.prog 48 #[.pointer (some ⟨b, 0, none⟩), .string ⟨#[74, 97, 110, 70, 101, 98, 77, 97, 114, 65, 112, 114, 77, 97, 121, 74, 117, 110, 74, 117, 108, 65, 117, 103, 83, 101, 112, 79, 99, 116, 78, 111, 118, 68, 101, 99]⟩] w fun e w' => Out p b w ((nameF monB σ).map fun x => (.int .i64 x.1, x.2)) e w' := by
  have K := hide k
  have HF := hide hF
  clear k hF
  have HNF : Hid (nameF monB σ = (findPre (nameT monB) σ.l 12 0).map fun j => (j, { σ with l := σ.l.drop 3 })) := rfl
  go_enter Tryd.func48, Tryd.ntmps48
  go_wp2
  go_loopw [9] (fun v wr => ∃ i : Nat, i ≤ 12 ∧ v = .int .i64 i ∧ Hid (Mv b w wr) ∧ Hid (RdS wr b σ) ∧ Hid (findPre (nameT monB) σ.l (12 - i) i = findPre (nameT monB) σ.l 12 0)) (fun v _ => 12 - (intOf v).toNat)
  case atStart => exact ⟨0, Nat.zero_le _, rfl, Mv.refl _ _, K, rfl⟩
  case round =>
    obtain ⟨i, hi, rfl, HM, HK, HP⟩ := hrel
    by_cases hlt : i < 12
    · have hlt' : (i : Int) < 12 := by omega
      have hs : findPre (nameT monB) σ.l (12 - i) i = if isPre σ.l (nameT monB i) then some i else findPre (nameT monB) σ.l (12 - (i + 1)) (i + 1) := by
        rw [show 12 - i = (12 - (i + 1)) + 1 by omega]
        rfl
      have hc0 := Blk.cell HK.out
      unfold rdr at hc0
      have hz := Blk.lt HK.out
      have hn := ext_some wr
      have hc := ext_cell wr
      cases hp : isPre σ.l (nameT monB i) with
      | true =>
        have HN : Hid (nameF monB σ = some (i, { σ with l := σ.l.drop 3 })) := by
          show _ = _
          rw [HNF.out, ← HP.out, hs, hp]
          rfl
        obtain ⟨c0, c1, c2, e3⟩ := three_mon i hlt
        have hsp := isPre_split hp
        rw [e3] at hsp
        have HSP : Hid (σ.l = c0 :: c1 :: c2 :: σ.l.drop 3) := hsp
        clear hs hsp e3
        go_wp2
        refine wp_region_ext (by kernel_rfl) (by kernel_rfl) ?_
        repeat (go_big_quiet_step (first | (go_at_call 59; exact ext_same (nameAt_mon i hlt _)) | (go_at_call 58; exact ext_same (hasPrefix_list _ _ _))))
        refine wpQuiet_nil ?_
        rintro w1 ⟨⟨_, hb1⟩, rfl⟩
        have HM1 : Hid (Mv b w w1) := HM.out.trans (Mv.of_below hb1)
        have HK1 : Hid (Rd w1 b (c0 :: c1 :: c2 :: σ.l.drop 3) σ.y σ.m σ.d σ.h σ.mi σ.s σ.wk σ.a) := by
          have := Blk.below HK.out hb1 hz
          rw [HSP.out] at this
          exact this
        clear hn hc hc0 hb1
        simp only [hp]
        clear hp
        go_wp2_with (go_at_call 47; refine (skip3 b c0 (σ.l.drop 3) σ.y σ.m σ.d σ.h σ.mi σ.s σ.wk σ.a _ c1 c2 HK1.out (by rw [List.length_drop]; omega)).mono ?_; rintro e w2 ⟨rfl, hm2, hr2⟩)
        go_ret
        exact ⟨HM1.out.trans hm2, by rw [HN.out]; exact ⟨rfl, hr2⟩⟩
      | false =>
        have HP2 : Hid (findPre (nameT monB) σ.l (12 - (i + 1)) (i + 1) = findPre (nameT monB) σ.l 12 0) := by
          show _ = _
          rw [← HP.out, hs, hp]
          rfl
        clear hs
        go_wp2
        refine wp_region_ext (by kernel_rfl) (by kernel_rfl) ?_
        repeat (go_big_quiet_step (first | (go_at_call 59; exact ext_same (nameAt_mon i hlt _)) | (go_at_call 58; exact ext_same (hasPrefix_list _ _ _))))
        refine wpQuiet_nil ?_
        rintro w1 ⟨⟨_, hb1⟩, rfl⟩
        have HM1 : Hid (Mv b w w1) := HM.out.trans (Mv.of_below hb1)
        have HK1 : Hid (RdS w1 b σ) := Blk.below HK.out hb1 hz
        clear hn hc hc0 hb1
        simp only [hp]
        clear hp
        go_wp2
        go_roundw
        case rel => exact ⟨i + 1, by omega, by go_num, HM1, HK1, HP2⟩
        case measure => simp [intOf]; omega
    · obtain rfl : i = 12 := by omega
      have HN : Hid (nameF monB σ = none) := by
        show _ = _
        rw [HNF.out, ← HP.out]
        rfl
      go_wp2_with fail
      refine (refuse_out _ b p (HF.out.mv HM.out)).mono ?_
      rintro e w1 ⟨rfl, rfl⟩
      exact go_panic (fn := Tryd.f48) rfl ⟨HM.out, by rw [HN.out]; rfl⟩
set_option maxHeartbeats 2000000 in
theorem nameAt_wkd (k : Nat) (hk : k < 7) (w : World) :
    Calls Tryd.prog 59 #[.string ⟨#[83, 117, 110, 77, 111, 110, 84, 117, 101, 87, 101, 100, 84, 104, 117, 70, 114, 105, 83, 97, 116]⟩, .int .i64 k] w fun e w' => e = .returned (.string ⟨(nameT wkdB k).toArray⟩) ∧ w' = w := by
  have hm : k = 0 ∨ k = 1 ∨ k = 2 ∨ k = 3 ∨ k = 4 ∨ k = 5 ∨ k = 6 := by omega
  clear hk
  rcases hm with rfl | rfl | rfl | rfl | rfl | rfl | rfl
  all_goals
    go_enter Tryd.func59, Tryd.ntmps59
    go_wp2
    go_ret
    exact ⟨by kernel_rfl, rfl⟩
theorem three_wkd (j : Nat) (hj : j < 7) : ∃ c0 c1 c2, nameT wkdB j = [c0, c1, c2] := by
  have hm : j = 0 ∨ j = 1 ∨ j = 2 ∨ j = 3 ∨ j = 4 ∨ j = 5 ∨ j = 6 := by omega
  clear hj
  rcases hm with rfl | rfl | rfl | rfl | rfl | rfl | rfl <;> exact ⟨_, _, _, rfl⟩
set_option maxRecDepth 20000 in
set_option maxHeartbeats 1000000 in
theorem name_wkd_out (p : Addr) (b : Nat) (w : World) (σ : RS) (hF : EF w b p) (k : RdS w b σ) (hl : σ.l.length ≤ 900) :
    Calls Tryd.prog 48 #[.pointer (some ⟨b, 0, none⟩), .string ⟨#[83, 117, 110, 77, 111, 110, 84, 117, 101, 87, 101, 100, 84, 104, 117, 70, 114, 105, 83, 97, 116]⟩] w fun e w' => Out p b w ((nameF wkdB σ).map fun x => (.int .i64 x.1, x.2)) e w' := by
  have K := hide k
  have HF := hide hF
  clear k hF
  have HNF : Hid (nameF wkdB σ = (findPre (nameT wkdB) σ.l 7 0).map fun j => (j, { σ with l := σ.l.drop 3 })) := rfl
  go_enter Tryd.func48, Tryd.ntmps48
  go_wp2
  go_loopw [9] (fun v wr => ∃ i : Nat, i ≤ 7 ∧ v = .int .i64 i ∧ Hid (Mv b w wr) ∧ Hid (RdS wr b σ) ∧ Hid (findPre (nameT wkdB) σ.l (7 - i) i = findPre (nameT wkdB) σ.l 7 0)) (fun v _ => 7 - (intOf v).toNat)
  case atStart => exact ⟨0, Nat.zero_le _, rfl, Mv.refl _ _, K, rfl⟩
  case round =>
    obtain ⟨i, hi, rfl, HM, HK, HP⟩ := hrel
    by_cases hlt : i < 7
    · have hlt' : (i : Int) < 7 := by omega
      have hs : findPre (nameT wkdB) σ.l (7 - i) i = if isPre σ.l (nameT wkdB i) then some i else findPre (nameT wkdB) σ.l (7 - (i + 1)) (i + 1) := by
        rw [show 7 - i = (7 - (i + 1)) + 1 by omega]
        rfl
      have hc0 := Blk.cell HK.out
      unfold rdr at hc0
      have hz := Blk.lt HK.out
      have hn := ext_some wr
      have hc := ext_cell wr
      cases hp : isPre σ.l (nameT wkdB i) with
      | true =>
        have HN : Hid (nameF wkdB σ = some (i, { σ with l := σ.l.drop 3 })) := by
          show _ = _
          rw [HNF.out, ← HP.out, hs, hp]
          rfl
        obtain ⟨c0, c1, c2, e3⟩ := three_wkd i hlt
        have hsp := isPre_split hp
        rw [e3] at hsp
        have HSP : Hid (σ.l = c0 :: c1 :: c2 :: σ.l.drop 3) := hsp
        clear hs hsp e3
        go_wp2
        refine wp_region_ext (by kernel_rfl) (by kernel_rfl) ?_
        repeat (go_big_quiet_step (first | (go_at_call 59; exact ext_same (nameAt_wkd i hlt _)) | (go_at_call 58; exact ext_same (hasPrefix_list _ _ _))))
        refine wpQuiet_nil ?_
        rintro w1 ⟨⟨_, hb1⟩, rfl⟩
        have HM1 : Hid (Mv b w w1) := HM.out.trans (Mv.of_below hb1)
        have HK1 : Hid (Rd w1 b (c0 :: c1 :: c2 :: σ.l.drop 3) σ.y σ.m σ.d σ.h σ.mi σ.s σ.wk σ.a) := by
          have := Blk.below HK.out hb1 hz
          rw [HSP.out] at this
          exact this
        clear hn hc hc0 hb1
        simp only [hp]
        clear hp
        go_wp2_with (go_at_call 47; refine (skip3 b c0 (σ.l.drop 3) σ.y σ.m σ.d σ.h σ.mi σ.s σ.wk σ.a _ c1 c2 HK1.out (by rw [List.length_drop]; omega)).mono ?_; rintro e w2 ⟨rfl, hm2, hr2⟩)
        go_ret
        exact ⟨HM1.out.trans hm2, by rw [HN.out]; exact ⟨rfl, hr2⟩⟩
      | false =>
        have HP2 : Hid (findPre (nameT wkdB) σ.l (7 - (i + 1)) (i + 1) = findPre (nameT wkdB) σ.l 7 0) := by
          show _ = _
          rw [← HP.out, hs, hp]
          rfl
        clear hs
        go_wp2
        refine wp_region_ext (by kernel_rfl) (by kernel_rfl) ?_
        repeat (go_big_quiet_step (first | (go_at_call 59; exact ext_same (nameAt_wkd i hlt _)) | (go_at_call 58; exact ext_same (hasPrefix_list _ _ _))))
        refine wpQuiet_nil ?_
        rintro w1 ⟨⟨_, hb1⟩, rfl⟩
        have HM1 : Hid (Mv b w w1) := HM.out.trans (Mv.of_below hb1)
        have HK1 : Hid (RdS w1 b σ) := Blk.below HK.out hb1 hz
        clear hn hc hc0 hb1
        simp only [hp]
        clear hp
        go_wp2
        go_roundw
        case rel => exact ⟨i + 1, by omega, by go_num, HM1, HK1, HP2⟩
        case measure => simp [intOf]; omega
    · obtain rfl : i = 7 := by omega
      have HN : Hid (nameF wkdB σ = none) := by
        show _ = _
        rw [HNF.out, ← HP.out]
        rfl
      go_wp2_with fail
      refine (refuse_out _ b p (HF.out.mv HM.out)).mono ?_
      rintro e w1 ⟨rfl, rfl⟩
      exact go_panic (fn := Tryd.f48) rfl ⟨HM.out, by rw [HN.out]; rfl⟩
end Go.Proofs.YtabncmepkoiheaaDoor
