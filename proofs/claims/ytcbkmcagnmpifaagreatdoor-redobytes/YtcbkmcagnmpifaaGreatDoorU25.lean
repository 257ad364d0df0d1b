/- The number of four bytes, by the program and by the document; a copy of bytes. -/
/- The whole record at the beginning: first. -/
import Derived.Test.YtcbkmcagnmpifaaGreatDoorU22
import Derived.Lib.LazyBuf
import Derived.Test.YtcbkmcagnmpifaaGreatDoorU09
section
namespace Go.Proofs.YtcbkmcagnmpifaaGreatDoor
open Go.RowKit
/-- Four cells of a row, in any world that has drawn. -/
theorem four_at {w : World} {A : Option Addr} {c : Nat} {bs : List UInt8} (h : BR w (.slice A bs.length c) bs) (h4 : 4 ≤ bs.length) : ∃ g o, A = some ⟨g, o, none⟩ ∧ bs.length ≤ c ∧ w.cell? ⟨g, o, none⟩ = some (.int .u8 (bs[0].toNat : Int)) ∧ w.cell? ⟨g, o + 1, none⟩ = some (.int .u8 (bs[1].toNat : Int)) ∧ w.cell? ⟨g, o + 2, none⟩ = some (.int .u8 (bs[2].toNat : Int)) ∧ w.cell? ⟨g, o + 3, none⟩ = some (.int .u8 (bs[3].toNat : Int)) := by
  obtain ⟨g, o, hA, _, hc, hk⟩ := h.at (List.ne_nil_of_length_pos (by omega))
  exact ⟨g, o, hA, hc, hk 0 (by omega), hk 1 (by omega), hk 2 (by omega), hk 3 (by omega)⟩
theorem join4 (a b c d : Nat) (ha : a < 256) (hb : b < 256) (hc : c < 256) (hd : d < 256) : bits .or .u32 (bits .or .u32 (bits .or .u32 ((a : Int) * 16777216) ((b : Int) * 65536)) ((c : Int) * 256)) (d : Int) = ((a * 16777216 + b * 65536 + c * 256 + d : Nat) : Int) := by
  have e1 := or_24 ((a : Int) * 16777216) ((b : Int) * 65536) (by omega) (by omega) (by omega) (by omega) (by omega)
  have e2 := or_16 ((a : Int) * 16777216 + (b : Int) * 65536) ((c : Int) * 256) (by omega) (by omega) (by omega) (by omega) (by omega)
  have e3 := or_8 ((a : Int) * 16777216 + (b : Int) * 65536 + (c : Int) * 256) (d : Int) (by omega) (by omega) (by omega) (by omega) (by omega)
  rw [e1, e2, e3]
  omega
set_option maxRecDepth 20000 in
set_option maxHeartbeats 2000000 in
theorem number_any (bs : List UInt8) (v : Value) (w : World) (h : BR w v bs) (h4 : 4 ≤ bs.length) :
    Calls Tryz.prog 151 #[v] w fun e w' => e = .returned (.int .u32 (numN bs)) ∧ ∃ n, w' = w.drewN n := by
  obtain ⟨A, c, rfl, hl, hm, _⟩ := BR.form h
  obtain ⟨g, o, rfl, hc, k0, k1, k2, k3⟩ := four_at h h4
  rw [numN_at bs h4]
  have b0 := UInt8.toNat_lt bs[0]
  have b1 := UInt8.toNat_lt bs[1]
  have b2 := UInt8.toNat_lt bs[2]
  have b3 := UInt8.toNat_lt bs[3]
  have HJ := hide (join4 _ _ _ _ b0 b1 b2 b3)
  generalize bs[0].toNat = x0 at *
  generalize bs[1].toNat = x1 at *
  generalize bs[2].toNat = x2 at *
  generalize bs[3].toNat = x3 at *
  have l0 : (0 : Int) < bs.length := by omega
  have l1 : (1 : Int) < bs.length := by omega
  have l2 : (2 : Int) < bs.length := by omega
  have l3 : (3 : Int) < bs.length := by omega
  clear h
  go_enter Tryz.func151, Tryz.ntmps151
  go_wp2_with fail
  go_quiet (fail)
  go_wp2
  go_ret
  exact ⟨ret_int HJ.out, _, rfl⟩


end Go.Proofs.YtcbkmcagnmpifaaGreatDoor

end
section
namespace Go.Proofs.YtcbkmcagnmpifaaGreatDoor
open Go.RowKit
/-- How many bytes the whole record at the beginning has. -/
def wholeN (bs : List UInt8) : Option Nat := if bs.length < 8 then none else if numN bs ≤ 400000 ∧ numN bs ≤ bs.length - 8 ∧ sumN 1 ((bs.drop 8).take (numN bs)) = numN (bs.drop 4) then some (numN bs) else none
def FirstNo (w w' : World) (e : Ending) : Prop := e = .returned (.tuple #[.slice none 0 0, .slice none 0 0, .bool false]) ∧ ∃ m, w' = w.drewN m
def FirstYes (v : Value) (w w' : World) (e : Ending) (bs : List UInt8) (n : Nat) : Prop := ∃ a1 n1 c1 a2 n2 c2, e = .returned (.tuple #[.slice (some a1) n1 c1, .slice (some a2) n2 c2, .bool true]) ∧ BR w (.slice (some a1) n1 c1) ((bs.drop 8).take n) ∧ BR w (.slice (some a2) n2 c2) (bs.drop (8 + n)) ∧ (∀ a k c, v = .slice (some a) k c → a2.block = a.block) ∧ ∃ m, w' = w.drewN m
def FirstOut (v : Value) (w w' : World) (e : Ending) (bs : List UInt8) : Prop := (wholeN bs = none → FirstNo w w' e) ∧ ∀ n, wholeN bs = some n → FirstYes v w w' e bs n
theorem BR.drewN {w : World} {v : Value} {bs : List UInt8} (h : BR w v bs) (n : Nat) : BR (w.drewN n) v bs := h.below (below_drewN w n)
theorem first_out_no {v : Value} {w w' : World} {e : Ending} {bs : List UInt8} (hw : wholeN bs = none) (h : FirstNo w w' e) : FirstOut v w w' e bs := ⟨fun _ => h, (fun n hn => by rw [hw] at hn; cases hn)⟩
theorem first_out_yes {v : Value} {w w' : World} {e : Ending} {bs : List UInt8} {n : Nat} (hw : wholeN bs = some n) (h : FirstYes v w w' e bs n) : FirstOut v w w' e bs := ⟨(fun hn => by rw [hw] at hn; cases hn), (fun n' hn => by rw [hw] at hn; cases hn; exact h)⟩
theorem whole_no {bs : List UInt8} (h : ¬ (numN bs ≤ 400000 ∧ numN bs ≤ bs.length - 8 ∧ sumN 1 ((bs.drop 8).take (numN bs)) = numN (bs.drop 4))) : wholeN bs = none := by
  unfold wholeN
  rw [if_neg h]
  split <;> rfl
theorem whole_yes {bs : List UInt8} (h8 : ¬ bs.length < 8) (h : numN bs ≤ 400000 ∧ numN bs ≤ bs.length - 8 ∧ sumN 1 ((bs.drop 8).take (numN bs)) = numN (bs.drop 4)) : wholeN bs = some (numN bs) := by
  unfold wholeN
  rw [if_neg h8, if_pos h]
section
variable {w : World} {bs : List UInt8} {g o c : Nat}
theorem BR.from (h : BR w (.slice (some ⟨g, o, none⟩) bs.length c) bs) (i : Nat) (hi : i ≤ bs.length) (hc : ¬ c = i) : BR w (.slice (some ⟨g, o + i, none⟩) (bs.length - i) (c - i)) (bs.drop i) := by
  have := (h.mid hi (Nat.le_refl _)).2 hc
  rw [Option.map_some, Go.WideShapes.add_plain, List.take_of_length_le (by rw [List.length_drop]; exact Nat.le_refl _)] at this
  exact this
theorem BR.from0 {A : Option Addr} (h : BR w (.slice A bs.length c) bs) (hi : c ≤ bs.length) : BR w (.slice A 0 0) (bs.drop c) := by
  have := (h.mid (i := c) hi (Nat.le_refl _)).1 rfl
  obtain ⟨A', c', hv, hl, _⟩ := BR.form h
  simp only [Value.slice.injEq] at hv
  obtain ⟨rfl, _, rfl⟩ := hv
  have e : bs.length - c = 0 := by omega
  rw [e, List.take_zero] at this
  rw [List.drop_eq_nil_of_le (by omega)]
  exact this
theorem BR.to (h : BR w (.slice (some ⟨g, o, none⟩) bs.length c) bs) (k : Nat) (hk : k ≤ bs.length) : BR w (.slice (some ⟨g, o, none⟩) k c) (bs.take k) := by
  obtain ⟨A', c', hv, hl, h3, h4, h5⟩ := h
  simp only [Value.slice.injEq] at hv
  obtain ⟨rfl, _, rfl⟩ := hv
  rw [List.length_map] at hl
  refine ⟨_, c, by rw [List.length_map, List.length_take, Nat.min_eq_left hk], by rw [List.length_map, List.length_take]; omega, h3, h4, fun hne => ?_⟩
  obtain ⟨g', o', hA, hg, h6⟩ := h5 (fun e => by
    have : bs = [] := by simpa using e
    subst this
    simp at hne)
  refine ⟨g', o', hA, hg, fun j u hu => ?_⟩
  have hj := (List.getElem?_eq_some_iff.1 hu).1
  rw [List.length_map, List.length_take] at hj
  rw [List.map_take, List.getElem?_take_of_lt (by omega)] at hu
  exact h6 j u hu
end
set_option maxRecDepth 20000 in
set_option maxHeartbeats 4000000 in
theorem first_short (bs : List UInt8) (w : World) (v : Value) (h : BR w v bs) (h8 : bs.length < 8) :
    Calls Tryz.prog 142 #[v] w fun e w' => FirstOut v w w' e bs := by
  obtain ⟨A, c, rfl, hl, hm, _⟩ := BR.form h
  have h8' : (bs.length : Int) < 8 := by omega
  have HW : Hid (wholeN bs = none) := by
    show wholeN bs = none
    unfold wholeN
    rw [if_pos h8]
  clear h
  go_enter Tryz.func142, Tryz.ntmps142
  go_wp2
  go_ret3
  exact first_out_no HW.out ⟨rfl, 0, rfl⟩
set_option maxRecDepth 20000 in
set_option maxHeartbeats 4000000 in
theorem first_long (bs : List UInt8) (w : World) (g o c : Nat) (h : BR w (.slice (some ⟨g, o, none⟩) bs.length c) bs) (h8 : ¬ bs.length < 8) (hN : ¬ numN bs ≤ 400000) :
    Calls Tryz.prog 142 #[(.slice (some ⟨g, o, none⟩) bs.length c)] w fun e w' => FirstOut (.slice (some ⟨g, o, none⟩) bs.length c) w w' e bs := by
  have h8' : ¬ (bs.length : Int) < 8 := by omega
  obtain ⟨A, c', hv, hl, hm, _⟩ := BR.form h
  simp only [Value.slice.injEq] at hv
  obtain ⟨rfl, _, rfl⟩ := hv
  have hm2 : c ≤ 9223372036854775807 := by simpa [maxLen] using hm
  clear hm
  have hb0 := hide h
  have hb4 := hide (h.from 4 (by omega) (by omega))
  have HN : Hid (∀ v bs', BR w v bs' → 4 ≤ bs'.length → ∀ m, Calls Tryz.prog 151 #[v] (w.drewN m) fun e w' => e = .returned (.int .u32 (numN bs')) ∧ ∃ n, w' = (w.drewN m).drewN n) := fun v bs' hb hl m => number_any bs' v _ (hb.drewN m) hl
  have l4 : (4 : Int) ≤ bs.length := by omega
  have l8 : (8 : Int) ≤ bs.length := by omega
  have c4 : ¬ c = 4 := by omega
  have hNl := numN_lt bs
  have hSl := numN_lt (bs.drop 4)
  have HW := hide (@whole_no bs)
  have HY := hide (@whole_yes bs h8)
  clear h
  have hN' : (400000 : Int) < numN bs := by omega
  clear hN
  by_cases hc8 : c = 8
  · subst hc8
    go_enter Tryz.func142, Tryz.ntmps142
    go_wp2_with fail
    go_quiet ((go_at_call 151; exact Calls.quiet_of (HN.out _ _ (by first | exact hb0.out | exact hb4.out) (by first | omega | (rw [List.length_drop]; omega)) _)))
    generalize numN bs = N at *
    go_wp2
    go_ret3
    exact first_out_no (HW.out (fun h => by omega)) ⟨rfl, _, rfl⟩
  · skip
    go_enter Tryz.func142, Tryz.ntmps142
    go_wp2_with fail
    go_quiet ((go_at_call 151; exact Calls.quiet_of (HN.out _ _ (by first | exact hb0.out | exact hb4.out) (by first | omega | (rw [List.length_drop]; omega)) _)))
    generalize numN bs = N at *
    go_wp2
    go_ret3
    exact first_out_no (HW.out (fun h => by omega)) ⟨rfl, _, rfl⟩
set_option maxRecDepth 20000 in
set_option maxHeartbeats 4000000 in
theorem first_cut (bs : List UInt8) (w : World) (g o c : Nat) (h : BR w (.slice (some ⟨g, o, none⟩) bs.length c) bs) (h8 : ¬ bs.length < 8) (hN : numN bs ≤ 400000) (hL : ¬ numN bs ≤ bs.length - 8) :
    Calls Tryz.prog 142 #[(.slice (some ⟨g, o, none⟩) bs.length c)] w fun e w' => FirstOut (.slice (some ⟨g, o, none⟩) bs.length c) w w' e bs := by
  have h8' : ¬ (bs.length : Int) < 8 := by omega
  obtain ⟨A, c', hv, hl, hm, _⟩ := BR.form h
  simp only [Value.slice.injEq] at hv
  obtain ⟨rfl, _, rfl⟩ := hv
  have hm2 : c ≤ 9223372036854775807 := by simpa [maxLen] using hm
  clear hm
  have hb0 := hide h
  have hb4 := hide (h.from 4 (by omega) (by omega))
  have HN : Hid (∀ v bs', BR w v bs' → 4 ≤ bs'.length → ∀ m, Calls Tryz.prog 151 #[v] (w.drewN m) fun e w' => e = .returned (.int .u32 (numN bs')) ∧ ∃ n, w' = (w.drewN m).drewN n) := fun v bs' hb hl m => number_any bs' v _ (hb.drewN m) hl
  have l4 : (4 : Int) ≤ bs.length := by omega
  have l8 : (8 : Int) ≤ bs.length := by omega
  have c4 : ¬ c = 4 := by omega
  have hNl := numN_lt bs
  have hSl := numN_lt (bs.drop 4)
  have HW := hide (@whole_no bs)
  have HY := hide (@whole_yes bs h8)
  clear h
  have hN' : decide ((400000 : Int) < numN bs) = false := by simp; omega
  have hL' : ((bs.length - 8 : Nat) : Int) < numN bs := by omega
  have HL := hide hL
  clear hN hL
  by_cases hc8 : c = 8
  · have h0' : (0 : Int) < numN bs := by omega
    subst hc8
    clear hm2 hL'
    go_enter Tryz.func142, Tryz.ntmps142
    go_wp2_with fail
    go_quiet ((go_at_call 151; exact Calls.quiet_of (HN.out _ _ (by first | exact hb0.out | exact hb4.out) (by first | omega | (rw [List.length_drop]; omega)) _)))
    generalize numN bs = N at *
    go_wp2
    go_ret3
    exact first_out_no (HW.out (fun h => HL.out h.2.1)) ⟨rfl, _, rfl⟩
  · skip
    go_enter Tryz.func142, Tryz.ntmps142
    go_wp2_with fail
    go_quiet ((go_at_call 151; exact Calls.quiet_of (HN.out _ _ (by first | exact hb0.out | exact hb4.out) (by first | omega | (rw [List.length_drop]; omega)) _)))
    generalize numN bs = N at *
    go_wp2
    go_ret3
    exact first_out_no (HW.out (fun h => HL.out h.2.1)) ⟨rfl, _, rfl⟩
set_option maxRecDepth 20000 in
set_option maxHeartbeats 4000000 in
theorem first_eight (bs : List UInt8) (w : World) (g o c : Nat) (h : BR w (.slice (some ⟨g, o, none⟩) bs.length c) bs) (h8 : ¬ bs.length < 8) (hN : numN bs ≤ 400000) (hL : numN bs ≤ bs.length - 8) (hc : c = 8) :
    Calls Tryz.prog 142 #[(.slice (some ⟨g, o, none⟩) bs.length c)] w fun e w' => FirstOut (.slice (some ⟨g, o, none⟩) bs.length c) w w' e bs := by
  subst hc
  have h8' : ¬ (bs.length : Int) < 8 := by omega
  obtain ⟨A, c', hv, hl, hm, _⟩ := BR.form h
  simp only [Value.slice.injEq] at hv
  obtain ⟨rfl, _, hc'⟩ := hv
  subst hc'
  clear hm
  have hb0 := hide h
  have hb4 := hide (h.from 4 (by omega) (by omega))
  have HN : Hid (∀ v bs', BR w v bs' → 4 ≤ bs'.length → ∀ m, Calls Tryz.prog 151 #[v] (w.drewN m) fun e w' => e = .returned (.int .u32 (numN bs')) ∧ ∃ n, w' = (w.drewN m).drewN n) := fun v bs' hb hl m => number_any bs' v _ (hb.drewN m) hl
  have l4 : (4 : Int) ≤ bs.length := by omega
  have l8 : (8 : Int) ≤ bs.length := by omega
  have hNl := numN_lt bs
  have hSl := numN_lt (bs.drop 4)
  have HW := hide (@whole_no bs)
  have HY := hide (@whole_yes bs h8)
  clear h
  have hN' : decide ((400000 : Int) < numN bs) = false := by simp; omega
  have hNz := hide (And.intro hN hL)
  have h0 : numN bs = 0 := by omega
  have h0' : (numN bs : Int) ≤ 0 := by omega
  have hheld : Hid (BR w (.slice (some ⟨g, o, none⟩) (numN bs) 0) ((bs.drop 8).take (numN bs))) := by
    have := hb0.out.from0 (by omega)
    rw [List.drop_eq_nil_of_le (show bs.length ≤ 8 by omega)] at this
    show BR _ _ _
    rw [h0, List.take_zero]
    exact this
  have hbeh : Hid (BR w (.slice (some ⟨g, o, none⟩) 0 0) (bs.drop (8 + numN bs))) := by
    show BR _ _ _
    rw [h0]
    exact hb0.out.from0 (by omega)
  have hs := hide (fun n : Nat => sum_any ((bs.drop 8).take (numN bs)) (.slice (some ⟨g, o, none⟩) (numN bs) 0) (w.drewN n) (hheld.out.drewN n))
  clear hN hL h0
  go_enter Tryz.func142, Tryz.ntmps142
  go_wp2_with fail
  go_quiet ((go_at_call 151; exact Calls.quiet_of (HN.out _ _ (by first | exact hb0.out | exact hb4.out) (by first | omega | (rw [List.length_drop]; omega)) _)))
  generalize numN bs = N at *
  generalize numN (bs.drop 4) = S at *
  generalize sumN 1 ((bs.drop 8).take N) = T at *
  by_cases hTS : T = S
  · subst hTS
    go_wp2_with fail
    go_quiet (fail)
    go_wp2_with (go_at_call 93; refine (hs.out _).mono ?_; rintro e w2 ⟨rfl, rfl⟩)
    go_ret3
    exact first_out_yes (HY.out ⟨hNz.out.1, hNz.out.2, by first | trivial | rfl⟩) ⟨_, _, _, _, _, _, rfl, hheld.out, hbeh.out, (fun a k c e => by cases e; rfl), _, rfl⟩
  · have hTS' : ¬ (T : Int) = S := by omega
    go_wp2_with fail
    go_quiet (fail)
    go_wp2_with (go_at_call 93; refine (hs.out _).mono ?_; rintro e w2 ⟨rfl, rfl⟩)
    go_ret3
    exact first_out_no (HW.out (fun h => hTS h.2.2)) ⟨rfl, _, rfl⟩
set_option maxRecDepth 20000 in
set_option maxHeartbeats 4000000 in
theorem first_all (bs : List UInt8) (w : World) (g o c : Nat) (h : BR w (.slice (some ⟨g, o, none⟩) bs.length c) bs) (h8 : ¬ bs.length < 8) (hN : numN bs ≤ 400000) (hL : numN bs ≤ bs.length - 8) (hc8 : ¬ c = 8) (hcN : c - 8 = numN bs) :
    Calls Tryz.prog 142 #[(.slice (some ⟨g, o, none⟩) bs.length c)] w fun e w' => FirstOut (.slice (some ⟨g, o, none⟩) bs.length c) w w' e bs := by
  have h8' : ¬ (bs.length : Int) < 8 := by omega
  obtain ⟨A, c', hv, hl, hm, _⟩ := BR.form h
  simp only [Value.slice.injEq] at hv
  obtain ⟨rfl, _, rfl⟩ := hv
  have hm2 : c ≤ 9223372036854775807 := by simpa [maxLen] using hm
  clear hm
  have hb0 := hide h
  have hb4 := hide (h.from 4 (by omega) (by omega))
  have HN : Hid (∀ v bs', BR w v bs' → 4 ≤ bs'.length → ∀ m, Calls Tryz.prog 151 #[v] (w.drewN m) fun e w' => e = .returned (.int .u32 (numN bs')) ∧ ∃ n, w' = (w.drewN m).drewN n) := fun v bs' hb hl m => number_any bs' v _ (hb.drewN m) hl
  have l4 : (4 : Int) ≤ bs.length := by omega
  have l8 : (8 : Int) ≤ bs.length := by omega
  have c4 : ¬ c = 4 := by omega
  have hNl := numN_lt bs
  have hSl := numN_lt (bs.drop 4)
  have HW := hide (@whole_no bs)
  have HY := hide (@whole_yes bs h8)
  clear h
  have hN' : decide ((400000 : Int) < numN bs) = false := by simp; omega
  have hNz := hide (And.intro hN hL)
  have hL' : ¬ ((bs.length - 8 : Nat) : Int) < numN bs := by omega
  have hL2 : (numN bs : Int) ≤ ((bs.length - 8 : Nat) : Int) := by omega
  have hb8 := hide (hb0.out.from 8 (by omega) hc8)
  have hheld : Hid (BR w (.slice (some ⟨g, o + 8, none⟩) (numN bs) (c - 8)) ((bs.drop 8).take (numN bs))) := by
    have := BR.to (bs := bs.drop 8) (by have := hb8.out; rw [← List.length_drop] at this; exact this) (numN bs) (by rw [List.length_drop]; omega)
    exact this
  have hs := hide (fun n : Nat => sum_any ((bs.drop 8).take (numN bs)) (.slice (some ⟨g, o + 8, none⟩) (numN bs) (c - 8)) (w.drewN n) (hheld.out.drewN n))
  have hbeh : Hid (BR w (.slice (some ⟨g, o + 8, none⟩) (bs.length - 8 - numN bs) 0) (bs.drop (8 + numN bs))) := by
    have := BR.from0 (bs := bs.drop 8) (by have := hb8.out; rw [← List.length_drop] at this; exact this) (by rw [List.length_drop]; omega)
    rw [List.drop_drop, hcN] at this
    rw [show bs.length - 8 - numN bs = 0 by omega]
    exact this
  rw [hcN] at hs hheld
  clear hN hL
  go_enter Tryz.func142, Tryz.ntmps142
  go_wp2_with fail
  go_quiet ((go_at_call 151; exact Calls.quiet_of (HN.out _ _ (by first | exact hb0.out | exact hb4.out) (by first | omega | (rw [List.length_drop]; omega)) _)))
  generalize numN bs = N at *
  generalize numN (bs.drop 4) = S at *
  generalize sumN 1 ((bs.drop 8).take N) = T at *
  by_cases hTS : T = S
  · subst hTS
    go_wp2_with fail
    go_quiet (fail)
    go_wp2_with (go_at_call 93; refine (hs.out _).mono ?_; rintro e w2 ⟨rfl, rfl⟩)
    go_ret3
    exact first_out_yes (HY.out ⟨hNz.out.1, hNz.out.2, by first | trivial | rfl⟩) ⟨_, _, _, _, _, _, rfl, hheld.out, hbeh.out, (fun a k c e => by cases e; rfl), _, rfl⟩
  · have hTS' : ¬ (T : Int) = S := by omega
    go_wp2_with fail
    go_quiet (fail)
    go_wp2_with (go_at_call 93; refine (hs.out _).mono ?_; rintro e w2 ⟨rfl, rfl⟩)
    go_ret3
    exact first_out_no (HW.out (fun h => hTS h.2.2)) ⟨rfl, _, rfl⟩
set_option maxRecDepth 20000 in
set_option maxHeartbeats 4000000 in
theorem first_mid (bs : List UInt8) (w : World) (g o c : Nat) (h : BR w (.slice (some ⟨g, o, none⟩) bs.length c) bs) (h8 : ¬ bs.length < 8) (hN : numN bs ≤ 400000) (hL : numN bs ≤ bs.length - 8) (hc8 : ¬ c = 8) (hcN : ¬ c - 8 = numN bs) :
    Calls Tryz.prog 142 #[(.slice (some ⟨g, o, none⟩) bs.length c)] w fun e w' => FirstOut (.slice (some ⟨g, o, none⟩) bs.length c) w w' e bs := by
  have h8' : ¬ (bs.length : Int) < 8 := by omega
  obtain ⟨A, c', hv, hl, hm, _⟩ := BR.form h
  simp only [Value.slice.injEq] at hv
  obtain ⟨rfl, _, rfl⟩ := hv
  have hm2 : c ≤ 9223372036854775807 := by simpa [maxLen] using hm
  clear hm
  have hb0 := hide h
  have hb4 := hide (h.from 4 (by omega) (by omega))
  have HN : Hid (∀ v bs', BR w v bs' → 4 ≤ bs'.length → ∀ m, Calls Tryz.prog 151 #[v] (w.drewN m) fun e w' => e = .returned (.int .u32 (numN bs')) ∧ ∃ n, w' = (w.drewN m).drewN n) := fun v bs' hb hl m => number_any bs' v _ (hb.drewN m) hl
  have l4 : (4 : Int) ≤ bs.length := by omega
  have l8 : (8 : Int) ≤ bs.length := by omega
  have c4 : ¬ c = 4 := by omega
  have hNl := numN_lt bs
  have hSl := numN_lt (bs.drop 4)
  have HW := hide (@whole_no bs)
  have HY := hide (@whole_yes bs h8)
  clear h
  have hN' : decide ((400000 : Int) < numN bs) = false := by simp; omega
  have hNz := hide (And.intro hN hL)
  have hL' : ¬ ((bs.length - 8 : Nat) : Int) < numN bs := by omega
  have hL2 : (numN bs : Int) ≤ ((bs.length - 8 : Nat) : Int) := by omega
  have hb8 := hide (hb0.out.from 8 (by omega) hc8)
  have hheld : Hid (BR w (.slice (some ⟨g, o + 8, none⟩) (numN bs) (c - 8)) ((bs.drop 8).take (numN bs))) := by
    have := BR.to (bs := bs.drop 8) (by have := hb8.out; rw [← List.length_drop] at this; exact this) (numN bs) (by rw [List.length_drop]; omega)
    exact this
  have hs := hide (fun n : Nat => sum_any ((bs.drop 8).take (numN bs)) (.slice (some ⟨g, o + 8, none⟩) (numN bs) (c - 8)) (w.drewN n) (hheld.out.drewN n))
  have hbeh : Hid (BR w (.slice (some ⟨g, o + 8 + numN bs, none⟩) (bs.length - 8 - numN bs) (c - 8 - numN bs)) (bs.drop (8 + numN bs))) := by
    have := BR.from (bs := bs.drop 8) (by have := hb8.out; rw [← List.length_drop] at this; exact this) (numN bs) (by rw [List.length_drop]; omega) hcN
    rw [List.drop_drop, List.length_drop] at this
    exact this
  clear hN hL
  go_enter Tryz.func142, Tryz.ntmps142
  go_wp2_with fail
  go_quiet ((go_at_call 151; exact Calls.quiet_of (HN.out _ _ (by first | exact hb0.out | exact hb4.out) (by first | omega | (rw [List.length_drop]; omega)) _)))
  generalize numN bs = N at *
  generalize numN (bs.drop 4) = S at *
  generalize sumN 1 ((bs.drop 8).take N) = T at *
  by_cases hTS : T = S
  · subst hTS
    go_wp2_with fail
    go_quiet (fail)
    go_wp2_with (go_at_call 93; refine (hs.out _).mono ?_; rintro e w2 ⟨rfl, rfl⟩)
    go_ret3
    exact first_out_yes (HY.out ⟨hNz.out.1, hNz.out.2, by first | trivial | rfl⟩) ⟨_, _, _, _, _, _, rfl, hheld.out, hbeh.out, (fun a k c e => by cases e; rfl), _, rfl⟩
  · have hTS' : ¬ (T : Int) = S := by omega
    go_wp2_with fail
    go_quiet (fail)
    go_wp2_with (go_at_call 93; refine (hs.out _).mono ?_; rintro e w2 ⟨rfl, rfl⟩)
    go_ret3
    exact first_out_no (HW.out (fun h => hTS h.2.2)) ⟨rfl, _, rfl⟩
theorem first_any (bs : List UInt8) (v : Value) (w : World) (h : BR w v bs) :
    Calls Tryz.prog 142 #[v] w fun e w' => FirstOut v w w' e bs := by
  by_cases h8 : bs.length < 8
  · exact first_short bs w v h h8
  · obtain ⟨A, c, rfl, hl, hm, _⟩ := BR.form h
    obtain ⟨g, o, rfl, hg, _, _⟩ := h.at (List.ne_nil_of_length_pos (by omega))
    by_cases hN : numN bs ≤ 400000
    · by_cases hL : numN bs ≤ bs.length - 8
      · by_cases hc8 : c = 8
        · exact first_eight bs w g o c h h8 hN hL hc8
        · by_cases hcN : c - 8 = numN bs
          · exact first_all bs w g o c h h8 hN hL hc8 hcN
          · exact first_mid bs w g o c h h8 hN hL hc8 hcN
      · exact first_cut bs w g o c h h8 hN hL
    · exact first_long bs w g o c h h8 hN
end Go.Proofs.YtcbkmcagnmpifaaGreatDoor

end
