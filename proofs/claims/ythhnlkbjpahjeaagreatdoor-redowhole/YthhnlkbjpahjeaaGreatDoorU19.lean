/- The whole record at the beginning: first. -/
/- redo's reader of bytes: pieces taken from the beginning. -/
/- redo's reader: numbers. -/
import Derived.Test.YthhnlkbjpahjeaaGreatDoorU18
section
namespace Go.Proofs.YthhnlkbjpahjeaaGreatDoor
open Go.RowKit
/-- How many bytes the whole record at the beginning has. -/
def wholeN (bs : List UInt8) : Option Nat := if bs.length < 8 then none else if numN bs ≤ 400000 ∧ numN bs ≤ bs.length - 8 ∧ sumN 1 ((bs.drop 8).take (numN bs)) = numN (bs.drop 4) then some (numN bs) else none
def FirstNo (w w' : World) (e : Ending) : Prop := e = .returned (.tuple #[.slice none 0 0, .slice none 0 0, .bool false]) ∧ ∃ m, w' = w.drewN m
def FirstYes (v : Value) (w w' : World) (e : Ending) (bs : List UInt8) (n : Nat) : Prop := ∃ a1 n1 c1 a2 n2 c2, e = .returned (.tuple #[.slice (some a1) n1 c1, .slice (some a2) n2 c2, .bool true]) ∧ BR w (.slice (some a1) n1 c1) ((bs.drop 8).take n) ∧ BR w (.slice (some a2) n2 c2) (bs.drop (8 + n)) ∧ (∀ a k c, v = .slice (some a) k c → a2.block = a.block) ∧ ∃ m, w' = w.drewN m
def FirstOut (v : Value) (w w' : World) (e : Ending) (bs : List UInt8) : Prop := (wholeN bs = none → FirstNo w w' e) ∧ ∀ n, wholeN bs = some n → FirstYes v w w' e bs n
theorem BR.drewN {w : World} {v : Value} {bs : List UInt8} (h : BR w v bs) (n : Nat) : BR (w.drewN n) v bs := h.below (below_drewN w n)
theorem first_out_no {v : Value} {w w' : World} {e : Ending} {bs : List UInt8} (hw : wholeN bs = none) (h : FirstNo w w' e) : FirstOut v w w' e bs := ⟨fun _ => h, (fun n hn => by rw [hw] at hn; cases hn)⟩
theorem first_out_yes {v : Value} {w w' : World} {e : Ending} {bs : List UInt8} {n : Nat} (hw : wholeN bs = some n) (h : FirstYes v w w' e bs n) : FirstOut v w w' e bs := ⟨(fun hn => by rw [hw] at hn; cases hn), (fun n' hn => by rw [hw] at hn; cases hn; exact h)⟩
theorem whole_no {bs : List UInt8} (h : ¬ (numN bs ≤ 400000 ∧ numN bs ≤ bs.length - 8 ∧ sumN 1 ((bs.drop 8).take (numN bs)) = numN (bs.drop 4))) : wholeN bs = none := by
  unfold wholeN
  rw [if_neg h]
  split <;> rfl
theorem whole_yes {bs : List UInt8} (h8 : ¬ bs.length < 8) (h : numN bs ≤ 400000 ∧ numN bs ≤ bs.length - 8 ∧ sumN 1 ((bs.drop 8).take (numN bs)) = numN (bs.drop 4)) : wholeN bs = some (numN bs) := by
  unfold wholeN
  rw [if_neg h8, if_pos h]
section
variable {w : World} {bs : List UInt8} {g o c : Nat}
theorem BR.from (h : BR w (.slice (some ⟨g, o, none⟩) bs.length c) bs) (i : Nat) (hi : i ≤ bs.length) (hc : ¬ c = i) : BR w (.slice (some ⟨g, o + i, none⟩) (bs.length - i) (c - i)) (bs.drop i) := by
  have := (h.mid hi (Nat.le_refl _)).2 hc
  rw [Option.map_some, Go.WideShapes.add_plain, List.take_of_length_le (by rw [List.length_drop]; exact Nat.le_refl _)] at this
  exact this
theorem BR.from0 {A : Option Addr} (h : BR w (.slice A bs.length c) bs) (hi : c ≤ bs.length) : BR w (.slice A 0 0) (bs.drop c) := by
  have := (h.mid (i := c) hi (Nat.le_refl _)).1 rfl
  obtain ⟨A', c', hv, hl, _⟩ := BR.form h
  simp only [Value.slice.injEq] at hv
  obtain ⟨rfl, _, rfl⟩ := hv
  have e : bs.length - c = 0 := by omega
  rw [e, List.take_zero] at this
  rw [List.drop_eq_nil_of_le (by omega)]
  exact this
theorem BR.to (h : BR w (.slice (some ⟨g, o, none⟩) bs.length c) bs) (k : Nat) (hk : k ≤ bs.length) : BR w (.slice (some ⟨g, o, none⟩) k c) (bs.take k) := by
  obtain ⟨A', c', hv, hl, h3, h4, h5⟩ := h
  simp only [Value.slice.injEq] at hv
  obtain ⟨rfl, _, rfl⟩ := hv
  rw [List.length_map] at hl
  refine ⟨_, c, by rw [List.length_map, List.length_take, Nat.min_eq_left hk], by rw [List.length_map, List.length_take]; omega, h3, h4, fun hne => ?_⟩
  obtain ⟨g', o', hA, hg, h6⟩ := h5 (fun e => by
    have : bs = [] := by simpa using e
    subst this
    simp at hne)
  refine ⟨g', o', hA, hg, fun j u hu => ?_⟩
  have hj := (List.getElem?_eq_some_iff.1 hu).1
  rw [List.length_map, List.length_take] at hj
  rw [List.map_take, List.getElem?_take_of_lt (by omega)] at hu
  exact h6 j u hu
end
set_option maxRecDepth 20000 in
set_option maxHeartbeats 4000000 in
theorem first_short (bs : List UInt8) (w : World) (v : Value) (h : BR w v bs) (h8 : bs.length < 8) :
    Calls Tryz.prog 127 #[v] w fun e w' => FirstOut v w w' e bs := by
  obtain ⟨A, c, rfl, hl, hm, _⟩ := BR.form h
  have h8' : (bs.length : Int) < 8 := by omega
  have HW : Hid (wholeN bs = none) := by
    show wholeN bs = none
    unfold wholeN
    rw [if_pos h8]
  clear h
  go_enter Tryz.func127, Tryz.ntmps127
  go_wp2
  go_ret3
  exact first_out_no HW.out ⟨rfl, 0, rfl⟩
set_option maxRecDepth 20000 in
set_option maxHeartbeats 4000000 in
theorem first_long (bs : List UInt8) (w : World) (g o c : Nat) (h : BR w (.slice (some ⟨g, o, none⟩) bs.length c) bs) (h8 : ¬ bs.length < 8) (hN : ¬ numN bs ≤ 400000) :
    Calls Tryz.prog 127 #[(.slice (some ⟨g, o, none⟩) bs.length c)] w fun e w' => FirstOut (.slice (some ⟨g, o, none⟩) bs.length c) w w' e bs := by
  have h8' : ¬ (bs.length : Int) < 8 := by omega
  obtain ⟨A, c', hv, hl, hm, _⟩ := BR.form h
  simp only [Value.slice.injEq] at hv
  obtain ⟨rfl, _, rfl⟩ := hv
  have hm2 : c ≤ 9223372036854775807 := by simpa [maxLen] using hm
  clear hm
  have hb0 := hide h
  have hb4 := hide (h.from 4 (by omega) (by omega))
  have HN : Hid (∀ v bs', BR w v bs' → 4 ≤ bs'.length → ∀ m, Calls Tryz.prog 140 #[v] (w.drewN m) fun e w' => e = .returned (.int .u32 (numN bs')) ∧ ∃ n, w' = (w.drewN m).drewN n) := fun v bs' hb hl m => number_any bs' v _ (hb.drewN m) hl
  have l4 : (4 : Int) ≤ bs.length := by omega
  have l8 : (8 : Int) ≤ bs.length := by omega
  have c4 : ¬ c = 4 := by omega
  have hNl := numN_lt bs
  have hSl := numN_lt (bs.drop 4)
  have HW := hide (@whole_no bs)
  have HY := hide (@whole_yes bs h8)
  clear h
  have hN' : (400000 : Int) < numN bs := by omega
  clear hN
  by_cases hc8 : c = 8
  · subst hc8
    go_enter Tryz.func127, Tryz.ntmps127
    go_wp2_with fail
    go_quiet ((go_at_call 140; exact Calls.quiet_of (HN.out _ _ (by first | exact hb0.out | exact hb4.out) (by first | omega | (rw [List.length_drop]; omega)) _)))
    generalize numN bs = N at *
    go_wp2
    go_ret3
    exact first_out_no (HW.out (fun h => by omega)) ⟨rfl, _, rfl⟩
  · skip
    go_enter Tryz.func127, Tryz.ntmps127
    go_wp2_with fail
    go_quiet ((go_at_call 140; exact Calls.quiet_of (HN.out _ _ (by first | exact hb0.out | exact hb4.out) (by first | omega | (rw [List.length_drop]; omega)) _)))
    generalize numN bs = N at *
    go_wp2
    go_ret3
    exact first_out_no (HW.out (fun h => by omega)) ⟨rfl, _, rfl⟩
set_option maxRecDepth 20000 in
set_option maxHeartbeats 4000000 in
theorem first_cut (bs : List UInt8) (w : World) (g o c : Nat) (h : BR w (.slice (some ⟨g, o, none⟩) bs.length c) bs) (h8 : ¬ bs.length < 8) (hN : numN bs ≤ 400000) (hL : ¬ numN bs ≤ bs.length - 8) :
    Calls Tryz.prog 127 #[(.slice (some ⟨g, o, none⟩) bs.length c)] w fun e w' => FirstOut (.slice (some ⟨g, o, none⟩) bs.length c) w w' e bs := by
  have h8' : ¬ (bs.length : Int) < 8 := by omega
  obtain ⟨A, c', hv, hl, hm, _⟩ := BR.form h
  simp only [Value.slice.injEq] at hv
  obtain ⟨rfl, _, rfl⟩ := hv
  have hm2 : c ≤ 9223372036854775807 := by simpa [maxLen] using hm
  clear hm
  have hb0 := hide h
  have hb4 := hide (h.from 4 (by omega) (by omega))
  have HN : Hid (∀ v bs', BR w v bs' → 4 ≤ bs'.length → ∀ m, Calls Tryz.prog 140 #[v] (w.drewN m) fun e w' => e = .returned (.int .u32 (numN bs')) ∧ ∃ n, w' = (w.drewN m).drewN n) := fun v bs' hb hl m => number_any bs' v _ (hb.drewN m) hl
  have l4 : (4 : Int) ≤ bs.length := by omega
  have l8 : (8 : Int) ≤ bs.length := by omega
  have c4 : ¬ c = 4 := by omega
  have hNl := numN_lt bs
  have hSl := numN_lt (bs.drop 4)
  have HW := hide (@whole_no bs)
  have HY := hide (@whole_yes bs h8)
  clear h
  have hN' : decide ((400000 : Int) < numN bs) = false := by simp; omega
  have hL' : ((bs.length - 8 : Nat) : Int) < numN bs := by omega
  have HL := hide hL
  clear hN hL
  by_cases hc8 : c = 8
  · have h0' : (0 : Int) < numN bs := by omega
    subst hc8
    clear hm2 hL'
    go_enter Tryz.func127, Tryz.ntmps127
    go_wp2_with fail
    go_quiet ((go_at_call 140; exact Calls.quiet_of (HN.out _ _ (by first | exact hb0.out | exact hb4.out) (by first | omega | (rw [List.length_drop]; omega)) _)))
    generalize numN bs = N at *
    go_wp2
    go_ret3
    exact first_out_no (HW.out (fun h => HL.out h.2.1)) ⟨rfl, _, rfl⟩
  · skip
    go_enter Tryz.func127, Tryz.ntmps127
    go_wp2_with fail
    go_quiet ((go_at_call 140; exact Calls.quiet_of (HN.out _ _ (by first | exact hb0.out | exact hb4.out) (by first | omega | (rw [List.length_drop]; omega)) _)))
    generalize numN bs = N at *
    go_wp2
    go_ret3
    exact first_out_no (HW.out (fun h => HL.out h.2.1)) ⟨rfl, _, rfl⟩
set_option maxRecDepth 20000 in
set_option maxHeartbeats 4000000 in
theorem first_eight (bs : List UInt8) (w : World) (g o c : Nat) (h : BR w (.slice (some ⟨g, o, none⟩) bs.length c) bs) (h8 : ¬ bs.length < 8) (hN : numN bs ≤ 400000) (hL : numN bs ≤ bs.length - 8) (hc : c = 8) :
    Calls Tryz.prog 127 #[(.slice (some ⟨g, o, none⟩) bs.length c)] w fun e w' => FirstOut (.slice (some ⟨g, o, none⟩) bs.length c) w w' e bs := by
  subst hc
  have h8' : ¬ (bs.length : Int) < 8 := by omega
  obtain ⟨A, c', hv, hl, hm, _⟩ := BR.form h
  simp only [Value.slice.injEq] at hv
  obtain ⟨rfl, _, hc'⟩ := hv
  subst hc'
  clear hm
  have hb0 := hide h
  have hb4 := hide (h.from 4 (by omega) (by omega))
  have HN : Hid (∀ v bs', BR w v bs' → 4 ≤ bs'.length → ∀ m, Calls Tryz.prog 140 #[v] (w.drewN m) fun e w' => e = .returned (.int .u32 (numN bs')) ∧ ∃ n, w' = (w.drewN m).drewN n) := fun v bs' hb hl m => number_any bs' v _ (hb.drewN m) hl
  have l4 : (4 : Int) ≤ bs.length := by omega
  have l8 : (8 : Int) ≤ bs.length := by omega
  have hNl := numN_lt bs
  have hSl := numN_lt (bs.drop 4)
  have HW := hide (@whole_no bs)
  have HY := hide (@whole_yes bs h8)
  clear h
  have hN' : decide ((400000 : Int) < numN bs) = false := by simp; omega
  have hNz := hide (And.intro hN hL)
  have h0 : numN bs = 0 := by omega
  have h0' : (numN bs : Int) ≤ 0 := by omega
  have hheld : Hid (BR w (.slice (some ⟨g, o, none⟩) (numN bs) 0) ((bs.drop 8).take (numN bs))) := by
    have := hb0.out.from0 (by omega)
    rw [List.drop_eq_nil_of_le (show bs.length ≤ 8 by omega)] at this
    show BR _ _ _
    rw [h0, List.take_zero]
    exact this
  have hbeh : Hid (BR w (.slice (some ⟨g, o, none⟩) 0 0) (bs.drop (8 + numN bs))) := by
    show BR _ _ _
    rw [h0]
    exact hb0.out.from0 (by omega)
  have hs := hide (fun n : Nat => sum_any ((bs.drop 8).take (numN bs)) (.slice (some ⟨g, o, none⟩) (numN bs) 0) (w.drewN n) (hheld.out.drewN n))
  clear hN hL h0
  go_enter Tryz.func127, Tryz.ntmps127
  go_wp2_with fail
  go_quiet ((go_at_call 140; exact Calls.quiet_of (HN.out _ _ (by first | exact hb0.out | exact hb4.out) (by first | omega | (rw [List.length_drop]; omega)) _)))
  generalize numN bs = N at *
  generalize numN (bs.drop 4) = S at *
  generalize sumN 1 ((bs.drop 8).take N) = T at *
  by_cases hTS : T = S
  · subst hTS
    go_wp2_with fail
    go_quiet (fail)
    go_wp2_with (go_at_call 75; refine (hs.out _).mono ?_; rintro e w2 ⟨rfl, rfl⟩)
    go_ret3
    exact first_out_yes (HY.out ⟨hNz.out.1, hNz.out.2, by first | trivial | rfl⟩) ⟨_, _, _, _, _, _, rfl, hheld.out, hbeh.out, (fun a k c e => by cases e; rfl), _, rfl⟩
  · have hTS' : ¬ (T : Int) = S := by omega
    go_wp2_with fail
    go_quiet (fail)
    go_wp2_with (go_at_call 75; refine (hs.out _).mono ?_; rintro e w2 ⟨rfl, rfl⟩)
    go_ret3
    exact first_out_no (HW.out (fun h => hTS h.2.2)) ⟨rfl, _, rfl⟩
set_option maxRecDepth 20000 in
set_option maxHeartbeats 4000000 in
theorem first_all (bs : List UInt8) (w : World) (g o c : Nat) (h : BR w (.slice (some ⟨g, o, none⟩) bs.length c) bs) (h8 : ¬ bs.length < 8) (hN : numN bs ≤ 400000) (hL : numN bs ≤ bs.length - 8) (hc8 : ¬ c = 8) (hcN : c - 8 = numN bs) :
    Calls Tryz.prog 127 #[(.slice (some ⟨g, o, none⟩) bs.length c)] w fun e w' => FirstOut (.slice (some ⟨g, o, none⟩) bs.length c) w w' e bs := by
  have h8' : ¬ (bs.length : Int) < 8 := by omega
  obtain ⟨A, c', hv, hl, hm, _⟩ := BR.form h
  simp only [Value.slice.injEq] at hv
  obtain ⟨rfl, _, rfl⟩ := hv
  have hm2 : c ≤ 9223372036854775807 := by simpa [maxLen] using hm
  clear hm
  have hb0 := hide h
  have hb4 := hide (h.from 4 (by omega) (by omega))
  have HN : Hid (∀ v bs', BR w v bs' → 4 ≤ bs'.length → ∀ m, Calls Tryz.prog 140 #[v] (w.drewN m) fun e w' => e = .returned (.int .u32 (numN bs')) ∧ ∃ n, w' = (w.drewN m).drewN n) := fun v bs' hb hl m => number_any bs' v _ (hb.drewN m) hl
  have l4 : (4 : Int) ≤ bs.length := by omega
  have l8 : (8 : Int) ≤ bs.length := by omega
  have c4 : ¬ c = 4 := by omega
  have hNl := numN_lt bs
  have hSl := numN_lt (bs.drop 4)
  have HW := hide (@whole_no bs)
  have HY := hide (@whole_yes bs h8)
  clear h
  have hN' : decide ((400000 : Int) < numN bs) = false := by simp; omega
  have hNz := hide (And.intro hN hL)
  have hL' : ¬ ((bs.length - 8 : Nat) : Int) < numN bs := by omega
  have hL2 : (numN bs : Int) ≤ ((bs.length - 8 : Nat) : Int) := by omega
  have hb8 := hide (hb0.out.from 8 (by omega) hc8)
  have hheld : Hid (BR w (.slice (some ⟨g, o + 8, none⟩) (numN bs) (c - 8)) ((bs.drop 8).take (numN bs))) := by
    have := BR.to (bs := bs.drop 8) (by have := hb8.out; rw [← List.length_drop] at this; exact this) (numN bs) (by rw [List.length_drop]; omega)
    exact this
  have hs := hide (fun n : Nat => sum_any ((bs.drop 8).take (numN bs)) (.slice (some ⟨g, o + 8, none⟩) (numN bs) (c - 8)) (w.drewN n) (hheld.out.drewN n))
  have hbeh : Hid (BR w (.slice (some ⟨g, o + 8, none⟩) (bs.length - 8 - numN bs) 0) (bs.drop (8 + numN bs))) := by
    have := BR.from0 (bs := bs.drop 8) (by have := hb8.out; rw [← List.length_drop] at this; exact this) (by rw [List.length_drop]; omega)
    rw [List.drop_drop, hcN] at this
    rw [show bs.length - 8 - numN bs = 0 by omega]
    exact this
  rw [hcN] at hs hheld
  clear hN hL
  go_enter Tryz.func127, Tryz.ntmps127
  go_wp2_with fail
  go_quiet ((go_at_call 140; exact Calls.quiet_of (HN.out _ _ (by first | exact hb0.out | exact hb4.out) (by first | omega | (rw [List.length_drop]; omega)) _)))
  generalize numN bs = N at *
  generalize numN (bs.drop 4) = S at *
  generalize sumN 1 ((bs.drop 8).take N) = T at *
  by_cases hTS : T = S
  · subst hTS
    go_wp2_with fail
    go_quiet (fail)
    go_wp2_with (go_at_call 75; refine (hs.out _).mono ?_; rintro e w2 ⟨rfl, rfl⟩)
    go_ret3
    exact first_out_yes (HY.out ⟨hNz.out.1, hNz.out.2, by first | trivial | rfl⟩) ⟨_, _, _, _, _, _, rfl, hheld.out, hbeh.out, (fun a k c e => by cases e; rfl), _, rfl⟩
  · have hTS' : ¬ (T : Int) = S := by omega
    go_wp2_with fail
    go_quiet (fail)
    go_wp2_with (go_at_call 75; refine (hs.out _).mono ?_; rintro e w2 ⟨rfl, rfl⟩)
    go_ret3
    exact first_out_no (HW.out (fun h => hTS h.2.2)) ⟨rfl, _, rfl⟩
set_option maxRecDepth 20000 in
set_option maxHeartbeats 4000000 in
theorem first_mid (bs : List UInt8) (w : World) (g o c : Nat) (h : BR w (.slice (some ⟨g, o, none⟩) bs.length c) bs) (h8 : ¬ bs.length < 8) (hN : numN bs ≤ 400000) (hL : numN bs ≤ bs.length - 8) (hc8 : ¬ c = 8) (hcN : ¬ c - 8 = numN bs) :
    Calls Tryz.prog 127 #[(.slice (some ⟨g, o, none⟩) bs.length c)] w fun e w' => FirstOut (.slice (some ⟨g, o, none⟩) bs.length c) w w' e bs := by
  have h8' : ¬ (bs.length : Int) < 8 := by omega
  obtain ⟨A, c', hv, hl, hm, _⟩ := BR.form h
  simp only [Value.slice.injEq] at hv
  obtain ⟨rfl, _, rfl⟩ := hv
  have hm2 : c ≤ 9223372036854775807 := by simpa [maxLen] using hm
  clear hm
  have hb0 := hide h
  have hb4 := hide (h.from 4 (by omega) (by omega))
  have HN : Hid (∀ v bs', BR w v bs' → 4 ≤ bs'.length → ∀ m, Calls Tryz.prog 140 #[v] (w.drewN m) fun e w' => e = .returned (.int .u32 (numN bs')) ∧ ∃ n, w' = (w.drewN m).drewN n) := fun v bs' hb hl m => number_any bs' v _ (hb.drewN m) hl
  have l4 : (4 : Int) ≤ bs.length := by omega
  have l8 : (8 : Int) ≤ bs.length := by omega
  have c4 : ¬ c = 4 := by omega
  have hNl := numN_lt bs
  have hSl := numN_lt (bs.drop 4)
  have HW := hide (@whole_no bs)
  have HY := hide (@whole_yes bs h8)
  clear h
  have hN' : decide ((400000 : Int) < numN bs) = false := by simp; omega
  have hNz := hide (And.intro hN hL)
  have hL' : ¬ ((bs.length - 8 : Nat) : Int) < numN bs := by omega
  have hL2 : (numN bs : Int) ≤ ((bs.length - 8 : Nat) : Int) := by omega
  have hb8 := hide (hb0.out.from 8 (by omega) hc8)
  have hheld : Hid (BR w (.slice (some ⟨g, o + 8, none⟩) (numN bs) (c - 8)) ((bs.drop 8).take (numN bs))) := by
    have := BR.to (bs := bs.drop 8) (by have := hb8.out; rw [← List.length_drop] at this; exact this) (numN bs) (by rw [List.length_drop]; omega)
    exact this
  have hs := hide (fun n : Nat => sum_any ((bs.drop 8).take (numN bs)) (.slice (some ⟨g, o + 8, none⟩) (numN bs) (c - 8)) (w.drewN n) (hheld.out.drewN n))
  have hbeh : Hid (BR w (.slice (some ⟨g, o + 8 + numN bs, none⟩) (bs.length - 8 - numN bs) (c - 8 - numN bs)) (bs.drop (8 + numN bs))) := by
    have := BR.from (bs := bs.drop 8) (by have := hb8.out; rw [← List.length_drop] at this; exact this) (numN bs) (by rw [List.length_drop]; omega) hcN
    rw [List.drop_drop, List.length_drop] at this
    exact this
  clear hN hL
  go_enter Tryz.func127, Tryz.ntmps127
  go_wp2_with fail
  go_quiet ((go_at_call 140; exact Calls.quiet_of (HN.out _ _ (by first | exact hb0.out | exact hb4.out) (by first | omega | (rw [List.length_drop]; omega)) _)))
  generalize numN bs = N at *
  generalize numN (bs.drop 4) = S at *
  generalize sumN 1 ((bs.drop 8).take N) = T at *
  by_cases hTS : T = S
  · subst hTS
    go_wp2_with fail
    go_quiet (fail)
    go_wp2_with (go_at_call 75; refine (hs.out _).mono ?_; rintro e w2 ⟨rfl, rfl⟩)
    go_ret3
    exact first_out_yes (HY.out ⟨hNz.out.1, hNz.out.2, by first | trivial | rfl⟩) ⟨_, _, _, _, _, _, rfl, hheld.out, hbeh.out, (fun a k c e => by cases e; rfl), _, rfl⟩
  · have hTS' : ¬ (T : Int) = S := by omega
    go_wp2_with fail
    go_quiet (fail)
    go_wp2_with (go_at_call 75; refine (hs.out _).mono ?_; rintro e w2 ⟨rfl, rfl⟩)
    go_ret3
    exact first_out_no (HW.out (fun h => hTS h.2.2)) ⟨rfl, _, rfl⟩
theorem first_any (bs : List UInt8) (v : Value) (w : World) (h : BR w v bs) :
    Calls Tryz.prog 127 #[v] w fun e w' => FirstOut v w w' e bs := by
  by_cases h8 : bs.length < 8
  · exact first_short bs w v h h8
  · obtain ⟨A, c, rfl, hl, hm, _⟩ := BR.form h
    obtain ⟨g, o, rfl, hg, _, _⟩ := h.at (List.ne_nil_of_length_pos (by omega))
    by_cases hN : numN bs ≤ 400000
    · by_cases hL : numN bs ≤ bs.length - 8
      · by_cases hc8 : c = 8
        · exact first_eight bs w g o c h h8 hN hL hc8
        · by_cases hcN : c - 8 = numN bs
          · exact first_all bs w g o c h h8 hN hL hc8 hcN
          · exact first_mid bs w g o c h h8 hN hL hc8 hcN
      · exact first_cut bs w g o c h h8 hN hL
    · exact first_long bs w g o c h h8 hN
end Go.Proofs.YthhnlkbjpahjeaaGreatDoor

end
section
namespace Go.Proofs.YthhnlkbjpahjeaaGreatDoor
open Go.RowKit
/-- Bytes of a slice that is nil, or at a plain place. -/
def RB (w : World) (v : Value) (bs : List UInt8) : Prop := (v = .slice none 0 0 ∧ bs = []) ∨ ∃ g o c, v = .slice (some ⟨g, o, none⟩) bs.length c ∧ BR w v bs
theorem RB.br {w : World} {v : Value} {bs : List UInt8} (h : RB w v bs) : BR w v bs := by
  rcases h with ⟨rfl, rfl⟩ | ⟨g, o, c, rfl, h⟩
  · exact ⟨none, 0, rfl, Nat.le_refl _, Nat.zero_le _, fun _ => rfl, fun h => absurd rfl h⟩
  · exact h
theorem RB.nil (w : World) : RB w (.slice none 0 0) [] := .inl ⟨rfl, rfl⟩
def takeA (n : Nat) (l : List UInt8) : List UInt8 := if l.length < n then [] else l.take n
def takeB (n : Nat) (l : List UInt8) : List UInt8 := if l.length < n then l else l.drop n
def takeS (n : Nat) (l : List UInt8) (s : Bool) : Bool := if l.length < n then true else s
/-- The reader in memory: what is left of the bytes lies in the world in which it began. -/
structure RDr (w0 w : World) (r : Nat) (rest : List UInt8) (short : Bool) : Prop where
  below : Below w0.heap.size w0 w
  low : w0.heap.size ≤ r
  blk : ∃ v, Blk w r #[v, .bool short] 167 ∧ RB w0 v rest
section
variable {w0 w w' : World} {r : Nat} {rest : List UInt8} {short : Bool}
theorem RDr.lt (h : RDr w0 w r rest short) : r < w.heap.size := by
  obtain ⟨v, hk, _⟩ := h.blk
  exact hk.lt
theorem RDr.keep {S : Nat → Prop} (h : RDr w0 w r rest short) (hm : Mvs S w w') (hS : ¬ S r) (h0 : ∀ k, S k → w0.heap.size ≤ k) : RDr w0 w' r rest short := by
  obtain ⟨v, hk, hb⟩ := h.blk
  exact ⟨h.below.trans (hm.below (fun k hk c => by have := h0 k c; omega) h.below.size), h.low, v, hm.blk hk hS, hb⟩
theorem RDr.then (h : RDr w0 w r rest short) (hb : Below w.heap.size w w') : RDr w0 w' r rest short := h.keep (S := fun _ => False) (Mvs.of_below hb) (fun c => c) (fun _ c => c.elim)
end
set_option maxRecDepth 8000 in
set_option maxHeartbeats 2000000 in
theorem rtake_any (w0 w : World) (r : Nat) (rest : List UInt8) (short : Bool) (h : RDr w0 w r rest short) (n : Nat) (hn : n ≤ 4294967296) :
    Calls Tryz.prog 141 #[pv r, .int .i64 n] w fun e w' => ∃ v, e = .returned v ∧ RB w0 v (takeA n rest) ∧ RDr w0 w' r (takeB n rest) (takeS n rest short) ∧ Mvs (fun k => k = r) w w' := by
  have HR := hide h
  obtain ⟨v, hk, hb⟩ := h.blk
  have hc := hk.cell
  have hf := hk.frozen
  have HK := hide hk
  have hm1 : ∀ (i : Nat) (u : Value), Mvs (fun k => k = r) w (w.setCell ⟨r, i, none⟩ u) := fun i u => (Mvs.refl (fun k => k = r) w).setCell ⟨r, i, none⟩ _ (fun _ => rfl)
  have HM := hide hm1
  have hbel : Hid (∀ i u, Below w0.heap.size w0 (w.setCell ⟨r, i, none⟩ u)) := fun i u => h.below.trans ((hm1 i u).below (fun k hk c => by have := h.low; omega) h.below.size)
  have HB := hide hb
  clear hk h hm1
  by_cases hlt : rest.length < n
  · have e1 : takeA n rest = [] := if_pos hlt
    have e2 : takeB n rest = rest := if_pos hlt
    have e3 : takeS n rest short = true := if_pos hlt
    rw [e1, e2, e3]
    clear e1 e2 e3
    have g1 : (rest.length : Int) < n := by omega
    obtain ⟨A, c, rfl, _⟩ := BR.form hb.br
    clear hb
    unfold pv
    go_enter Tryz.func141, Tryz.ntmps141
    go_wp2
    go_ret
    exact ⟨_, rfl, RB.nil _, ⟨hbel.out 1 _, HR.out.low, _, HK.out.set 1 _, HB.out⟩, HM.out 1 _⟩
  · have e1 : takeA n rest = rest.take n := if_neg hlt
    have e2 : takeB n rest = rest.drop n := if_neg hlt
    have e3 : takeS n rest short = short := if_neg hlt
    rw [e1, e2, e3]
    clear e1 e2 e3
    have g1 : ¬ (rest.length : Int) < n := by omega
    rcases hb with ⟨rfl, rfl⟩ | ⟨g, o, c, rfl, hb⟩
    · have n0 : n = 0 := by simpa using hlt
      subst n0
      clear hlt g1
      unfold pv
      go_enter Tryz.func141, Tryz.ntmps141
      go_wp2
      go_ret
      exact ⟨_, rfl, RB.nil _, ⟨hbel.out 0 _, HR.out.low, _, HK.out.set 0 _, RB.nil _⟩, HM.out 0 _⟩
    · obtain ⟨A, c', hv, hl, hm, _⟩ := BR.form hb
      simp only [Value.slice.injEq] at hv
      obtain ⟨rfl, _, rfl⟩ := hv
      have hm2 : c ≤ 9223372036854775807 := by simpa [maxLen] using hm
      have g2 : (n : Int) ≤ (rest.length : Int) := by omega
      have g3 : n ≤ rest.length := by omega
      have g4 : (n : Int) ≤ (c : Int) := by omega
      have g5 : n ≤ c := by omega
      have hT : RB w0 (.slice (some ⟨g, o, none⟩) n c) (rest.take n) := .inr ⟨g, o, c, by rw [List.length_take, Nat.min_eq_left g3], hb.to n g3⟩
      replace hT := hide hT
      clear hm
      by_cases hcn : c = n
      · have hD : RB w0 (.slice (some ⟨g, o, none⟩) 0 0) (rest.drop n) := by
          have : rest.drop n = [] := List.drop_eq_nil_of_le (by omega)
          refine .inr ⟨g, o, 0, by rw [this]; rfl, ?_⟩
          have h0 := hb.from0 (by omega)
          rw [hcn] at h0
          exact h0
        replace hD := hide hD
        have e0 : rest.length - n = 0 := by omega
        subst hcn
        clear hb
        unfold pv
        go_enter Tryz.func141, Tryz.ntmps141
        go_wp2
        go_ret
        refine ⟨_, rfl, hT.out, ⟨hbel.out 0 _, HR.out.low, _, HK.out.set 0 _, ?_⟩, HM.out 0 _⟩
        first | exact hD.out | (rw [e0]; exact hD.out)
      · have hD : RB w0 (.slice (some ⟨g, o + n, none⟩) (rest.length - n) (c - n)) (rest.drop n) := .inr ⟨g, o + n, c - n, by rw [List.length_drop], hb.from n g3 hcn⟩
        replace hD := hide hD
        clear hb
        unfold pv
        go_enter Tryz.func141, Tryz.ntmps141
        go_wp2
        go_ret
        exact ⟨_, rfl, hT.out, ⟨hbel.out 0 _, HR.out.low, _, HK.out.set 0 _, hD.out⟩, HM.out 0 _⟩
end Go.Proofs.YthhnlkbjpahjeaaGreatDoor

end
section
namespace Go.Proofs.YthhnlkbjpahjeaaGreatDoor
open Go.RowKit
def numR (bs : List UInt8) : Nat := bs.foldl (fun n c => n * 256 + c.toNat) 0
theorem numR_take (bs : List UInt8) (k : Nat) (h : k < bs.length) : numR (bs.take (k + 1)) = numR (bs.take k) * 256 + bs[k].toNat := by
  unfold numR
  rw [List.take_succ_eq_append_getElem h, List.foldl_append]
  rfl
theorem foldl_lt : ∀ (bs : List UInt8) (n : Nat), bs.foldl (fun n c => n * 256 + c.toNat) n < (n + 1) * 256 ^ bs.length
  | [], n => by simp
  | c :: r, n => by
    have h1 := foldl_lt r (n * 256 + c.toNat)
    have h2 := UInt8.toNat_lt c
    rw [List.foldl_cons, List.length_cons, Nat.pow_succ, Nat.mul_comm (256 ^ r.length) 256, ← Nat.mul_assoc]
    refine Nat.lt_of_lt_of_le h1 (Nat.mul_le_mul_right _ ?_)
    omega
theorem numR_lt (bs : List UInt8) (h : bs.length ≤ 4) : numR bs < 4294967296 := by
  have h1 := foldl_lt bs 0
  have h2 : 256 ^ bs.length ≤ 256 ^ 4 := Nat.pow_le_pow_right (by decide) h
  unfold numR
  omega
theorem numR_lt3 (bs : List UInt8) (h : bs.length ≤ 3) : numR bs < 16777216 := by
  have h1 := foldl_lt bs 0
  have h2 : 256 ^ bs.length ≤ 256 ^ 3 := Nat.pow_le_pow_right (by decide) h
  unfold numR
  omega
theorem wraps_i64 (n : Int) (h₀ : 0 ≤ n) (h₁ : n < 2 ^ 40) : IntKind.i64.wrap n = n := by rw [IntKind.wrap_i64]; omega
theorem or_i64 (x y : Int) (hx₀ : 0 ≤ x) (hx : x % 256 = 0) (hx₁ : x < 4294967296) (h₀ : 0 ≤ y) (h₁ : y < 256) : bits .or .i64 x y = x + y := bits_join .i64 40 (by decide) wraps_i64 8 x y hx₀ hx (by omega) h₀ h₁ (by omega)
theorem takeA_length (n : Nat) (l : List UInt8) : (takeA n l).length ≤ n := by
  unfold takeA
  split
  · exact Nat.zero_le _
  · rw [List.length_take]
    omega
set_option maxRecDepth 8000 in
set_option maxHeartbeats 2000000 in
theorem rnumber_any (w0 w : World) (r : Nat) (rest : List UInt8) (short : Bool) (h : RDr w0 w r rest short) (n : Nat) (hn : n ≤ 4) :
    Calls Tryz.prog 128 #[pv r, .int .i64 n] w fun e w' => e = .returned (.int .i64 (numR (takeA n rest))) ∧ RDr w0 w' r (takeB n rest) (takeS n rest short) ∧ Mvs (fun k => k = r) w w' := by
  have HT := hide (rtake_any w0 w r rest short h n (by omega))
  have hl4 := takeA_length n rest
  clear h
  unfold pv at HT ⊢
  go_enter Tryz.func128, Tryz.ntmps128
  go_wp2_with fail
  refine HT.out.mono ?_
  rintro e w1 ⟨v, rfl, hv, hR, hM⟩
  have HR := hide hR
  have HM := hide hM
  have hbr := hv.br.below hR.below
  generalize hle : takeA n rest = l at *
  replace hle := hide hle
  obtain ⟨A, c, rfl, hlc, hm, _⟩ := BR.form hbr
  have HBR := hide hbr
  have hm2 : c ≤ 9223372036854775807 := by simpa [maxLen] using hm
  clear hbr hv hR hM HT hm
  go_wp2
  go_loop [5, 7, 12] (fun u _ i => ∃ k : Nat, k ≤ l.length ∧ i = .int .i64 k ∧ u = .int .i64 (numR (l.take k))) (fun _ _ i => l.length - (intOf i).toNat)
  case atStart => exact ⟨0, Nat.zero_le _, rfl, rfl⟩
  case round =>
    obtain ⟨k, hkl, rfl, rfl⟩ := hrel
    by_cases hlt : k < l.length
    · have hltz : (k : Int) < (l.length : Int) := by omega
      obtain ⟨g, o, rfl, hg, hlc', hk⟩ := HBR.out.at (fun e => by rw [e] at hlt; simp at hlt)
      have hck := hk k hlt
      have hN : Hid (numR (l.take (k + 1)) = numR (l.take k) * 256 + l[k].toNat) := numR_take l k hlt
      have hb3 := numR_lt3 (l.take k) (by rw [List.length_take]; omega)
      have h8 := UInt8.toNat_lt l[k]
      generalize l[k].toNat = x at hck hN h8
      generalize numR (l.take k) = m at hN hb3
      have ho := or_i64 ((m : Int) * 256) (x : Int) (by omega) (by omega) (by omega) (by omega) (by omega)
      clear hk hg
      go_wp2_with fail
      go_round
      case rel =>
        refine ⟨k + 1, by omega, by go_num, ?_⟩
        rw [hN.out]
        congr 1
      case measure => simp [intOf]; omega
    · have hltz : ¬ (k : Int) < (l.length : Int) := by omega
      have e : Hid (numR (l.take k) = numR l) := by
        show _ = _
        rw [List.take_of_length_le (by omega)]
      go_wp2
      go_ret
      exact ⟨by rw [hle.out, ← e.out]; rfl, HR.out, HM.out⟩
/-- One operation, read. -/
structure Rdd where
  kind : Nat
  name : List UInt8
  at_ : Nat
  bytes : List UInt8
  rest : List UInt8
  short : Bool
def readOp (l : List UInt8) (s : Bool) : Rdd :=
  let l1 := takeB 1 l
  let s1 := takeS 1 l s
  let n := numR (takeA 1 l1)
  let l2 := takeB 1 l1
  let s2 := takeS 1 l1 s1
  let l3 := takeB n l2
  let s3 := takeS n l2 s2
  let l4 := takeB 4 l3
  let s4 := takeS 4 l3 s3
  let m := numR (takeA 4 l4)
  let l5 := takeB 4 l4
  let s5 := takeS 4 l4 s4
  ⟨numR (takeA 1 l), takeA n l2, numR (takeA 4 l3), takeA m l5, takeB m l5, takeS m l5 s5⟩
def Rdd.op (x : Rdd) (v : Value) : OpA := ⟨x.kind, x.name, x.at_, v, x.bytes⟩
theorem takeA_le (n : Nat) (l : List UInt8) : (takeA n l).length ≤ l.length := by
  unfold takeA
  split
  · exact Nat.zero_le _
  · rw [List.length_take]
    omega
theorem takeB_le (n : Nat) (l : List UInt8) : (takeB n l).length ≤ l.length := by
  unfold takeB
  split
  · exact Nat.le_refl _
  · rw [List.length_drop]
    omega
/-- A copy of bytes. -/
theorem cloneB_any (bs : List UInt8) (v : Value) (w : World) (h : BR w v bs) (hb : bs.length ≤ 1000000) :
    Calls Tryz.prog 64 #[v] w fun e w' => ∃ v', e = .returned v' ∧ Bts w w' v' bs := by
  obtain ⟨A, c, rfl, _, _, hn⟩ := BR.form h
  cases A with
  | none =>
    obtain rfl := hn rfl
    have e0 : bs = [] := by
      obtain ⟨_, _, hv, hl, _⟩ := h
      simp only [Value.slice.injEq] at hv
      obtain ⟨_, _, rfl⟩ := hv
      rw [List.length_map] at hl
      exact List.length_eq_zero_iff.1 (by omega)
    subst e0
    exact (clone_nil w).mono fun e w' ⟨he, hw⟩ => ⟨_, he, by subst hw; exact ⟨Below.refl _ _, none, Rw.nil _ _, fun _ h => by cases h⟩⟩
  | some a => exact clone_any bs a _ c w h hb
set_option maxRecDepth 8000 in
set_option maxHeartbeats 4000000 in
theorem rop_any (w0 w : World) (r : Nat) (rest : List UInt8) (short : Bool) (h : RDr w0 w r rest short) (hl : rest.length ≤ 1000000) :
    Calls Tryz.prog 129 #[pv r] w fun e w' => ∃ v, e = .returned (.agg ((readOp rest short).op v).cells) ∧ BR w' v (readOp rest short).bytes ∧ RDr w0 w' r (readOp rest short).rest (readOp rest short).short ∧ Mvs (fun k => k = r) w w' ∧ (∀ A n c, v = .slice (some A) n c → w.heap.size ≤ A.block) := by
  have hrl := h.lt
  have hb0 : Below w.heap.size w (w.alloc (.cells #[.int .i64 0, .string ⟨#[]⟩, .int .i64 0, .slice none 0 0] 48)) := (Below.refl _ _).alloc (Nat.le_refl _) _
  have H0 := hide (h.then hb0)
  have k0 := hide (Blk.new w #[.int .i64 0, .string ⟨#[]⟩, .int .i64 0, .slice none 0 0] 48)
  have M0 : Hid (Mvs (fun k => k = r) w (w.alloc (.cells #[.int .i64 0, .string ⟨#[]⟩, .int .i64 0, .slice none 0 0] 48))) := (Mvs.refl _ _).alloc _
  clear h hb0
  have hne : w.heap.size ≠ r := by omega
  have hne2 : r ≠ w.heap.size := by omega
  unfold pv
  go_enter Tryz.func129, Tryz.ntmps129
  go_wp2_with fail
  refine (rnumber_any w0 _ r rest short H0.out 1 (by decide)).mono ?_
  rintro e w1 ⟨rfl, H1, M1⟩
  have k1 := hide (M1.blk k0.out hne)
  replace M1 := hide (M0.out.trans M1)
  obtain ⟨x1, hx1⟩ : ∃ x, Hid (x = numR (takeA 1 rest)) := ⟨_, rfl⟩
  obtain ⟨l1, hl1⟩ : ∃ x, Hid (x = takeB 1 rest) := ⟨_, rfl⟩
  obtain ⟨s1, hs1⟩ : ∃ x, Hid (x = takeS 1 rest short) := ⟨_, rfl⟩
  have b1 : Hid (l1.length ≤ rest.length) := by show _ ≤ _; rw [hl1.out]; exact takeB_le _ _
  rw [← hx1.out]
  rw [← hl1.out, ← hs1.out] at H1
  replace H1 := hide H1
  clear H0 k0 M0
  go_wp2_with fail
  refine (rnumber_any w0 _ r l1 s1 H1.out 1 (by decide)).mono ?_
  rintro e w2 ⟨rfl, H2, M2⟩
  have k2 := hide (M2.blk k1.out hne)
  replace M2 := hide (M1.out.trans M2)
  obtain ⟨x2, hx2⟩ : ∃ x, Hid (x = numR (takeA 1 l1)) := ⟨_, rfl⟩
  obtain ⟨l2, hl2⟩ : ∃ x, Hid (x = takeB 1 l1) := ⟨_, rfl⟩
  obtain ⟨s2, hs2⟩ : ∃ x, Hid (x = takeS 1 l1 s1) := ⟨_, rfl⟩
  have b2 : Hid (l2.length ≤ l1.length) := by show _ ≤ _; rw [hl2.out]; exact takeB_le _ _
  have bx2 : Hid (x2 < 4294967296) := by show _ < _; rw [hx2.out]; exact numR_lt _ (Nat.le_trans (takeA_length _ _) (by decide))
  rw [← hx2.out]
  rw [← hl2.out, ← hs2.out] at H2
  replace H2 := hide H2
  clear k1 M1
  go_wp2_with fail
  refine (rtake_any w0 _ r l2 s2 H2.out x2 (by have := bx2.out; omega)).mono ?_
  rintro e w3 ⟨v3, rfl, hv3, H3, M3⟩
  have k3 := hide (M3.blk k2.out hne)
  replace M3 := hide (M2.out.trans M3)
  obtain ⟨nm, hnm⟩ : ∃ x, Hid (x = takeA x2 l2) := ⟨_, rfl⟩
  obtain ⟨l3, hl3⟩ : ∃ x, Hid (x = takeB x2 l2) := ⟨_, rfl⟩
  obtain ⟨s3, hs3⟩ : ∃ x, Hid (x = takeS x2 l2 s2) := ⟨_, rfl⟩
  have b3 : Hid (l3.length ≤ l2.length) := by show _ ≤ _; rw [hl3.out]; exact takeB_le _ _
  rw [← hnm.out] at hv3
  rw [← hl3.out, ← hs3.out] at H3
  have hbr3 := hv3.br.below H3.below
  have hcv := hbr3.convert
  replace H3 := hide H3
  clear k2 M2 hv3 hbr3
  go_wp2_with fail
  refine (rnumber_any w0 _ r l3 s3 H3.out 4 (by decide)).mono ?_
  rintro e w4 ⟨rfl, H4, M4⟩
  have k4 := hide (M4.blk k3.out hne)
  replace M4 := hide (M3.out.trans M4)
  obtain ⟨x4, hx4⟩ : ∃ x, Hid (x = numR (takeA 4 l3)) := ⟨_, rfl⟩
  obtain ⟨l4, hl4⟩ : ∃ x, Hid (x = takeB 4 l3) := ⟨_, rfl⟩
  obtain ⟨s4, hs4⟩ : ∃ x, Hid (x = takeS 4 l3 s3) := ⟨_, rfl⟩
  have b4 : Hid (l4.length ≤ l3.length) := by show _ ≤ _; rw [hl4.out]; exact takeB_le _ _
  rw [← hx4.out]
  rw [← hl4.out, ← hs4.out] at H4
  replace H4 := hide H4
  clear k3 M3 hcv
  go_wp2_with fail
  refine (rnumber_any w0 _ r l4 s4 H4.out 4 (by decide)).mono ?_
  rintro e w5 ⟨rfl, H5, M5⟩
  have k5 := hide (M5.blk k4.out hne)
  replace M5 := hide (M4.out.trans M5)
  obtain ⟨x5, hx5⟩ : ∃ x, Hid (x = numR (takeA 4 l4)) := ⟨_, rfl⟩
  obtain ⟨l5, hl5⟩ : ∃ x, Hid (x = takeB 4 l4) := ⟨_, rfl⟩
  obtain ⟨s5, hs5⟩ : ∃ x, Hid (x = takeS 4 l4 s4) := ⟨_, rfl⟩
  have b5 : Hid (l5.length ≤ l4.length) := by show _ ≤ _; rw [hl5.out]; exact takeB_le _ _
  have bx5 : Hid (x5 < 4294967296) := by show _ < _; rw [hx5.out]; exact numR_lt _ (takeA_length _ _)
  rw [← hx5.out]
  rw [← hl5.out, ← hs5.out] at H5
  replace H5 := hide H5
  clear k4 M4
  go_wp2_with fail
  refine (rtake_any w0 _ r l5 s5 H5.out x5 (by have := bx5.out; omega)).mono ?_
  rintro e w6 ⟨v6, rfl, hv6, H6, M6⟩
  have k6 := hide (M6.blk k5.out hne)
  replace M6 := hide (M5.out.trans M6)
  obtain ⟨bs, hbs⟩ : ∃ x, Hid (x = takeA x5 l5) := ⟨_, rfl⟩
  obtain ⟨l6, hl6⟩ : ∃ x, Hid (x = takeB x5 l5) := ⟨_, rfl⟩
  obtain ⟨s6, hs6⟩ : ∃ x, Hid (x = takeS x5 l5 s5) := ⟨_, rfl⟩
  have bb : Hid (bs.length ≤ 1000000) := by
    show _ ≤ _
    have h1 := takeA_le x5 l5
    rw [← hbs.out] at h1
    have := b1.out
    have := b2.out
    have := b3.out
    have := b4.out
    have := b5.out
    omega
  rw [← hbs.out] at hv6
  rw [← hl6.out, ← hs6.out] at H6
  have hbr6 := hv6.br.below H6.below
  replace H6 := hide H6
  clear k5 M5 hv6
  go_wp2_with fail
  refine (cloneB_any bs _ w6 hbr6 bb.out).mono ?_
  rintro e w7 ⟨v7, rfl, T7⟩
  have k7 := k6.out.below T7.1 k6.out.lt
  have H7 := hide (H6.out.then T7.1)
  have M7 := hide (M6.out.then T7.1)
  have hc7 := k7.cell
  have hf7 := k7.frozen
  have K7 := hide k7
  have hsz := hide M6.out.size
  have hk6' := hide k6.out.lt
  have hv7 : Hid (∀ A n c, v7 = .slice (some A) n c → w6.heap.size ≤ A.block) := by
    obtain ⟨_, G, hr, hg⟩ := T7
    rintro A n c rfl
    rcases hr.2 with ⟨h, _⟩ | ⟨g, o, cap, hG, hv, _⟩
    · cases h
    · cases hv
      exact hg _ hG
  have T7' := hide T7
  obtain ⟨A7, c7, rfl, _⟩ := BR.form T7.br
  clear T7 k7 hbr6 k6 M6 H6
  go_wp2
  have hro : readOp rest short = ⟨x1, nm, x4, bs, l6, s6⟩ := by
    rw [hl6.out, hs6.out, hbs.out, hx5.out, hl5.out, hs5.out, hx4.out, hl4.out, hs4.out, hnm.out, hl3.out, hs3.out, hx2.out, hl2.out, hs2.out, hx1.out, hl1.out, hs1.out]
    rfl
  rw [hro]
  have k8 := (((K7.out.set 0 (.int .i64 x1)).set 1 (.string ⟨nm.toArray⟩)).set 2 (.int .i64 x4)).set 3 (.slice A7 bs.length c7)
  have m8 : Mvs (fun k => k = w.heap.size) w7 ((((w7.setCell ⟨w.heap.size, 0, none⟩ (.int .i64 x1)).setCell ⟨w.heap.size, 1, none⟩ (.string ⟨nm.toArray⟩)).setCell ⟨w.heap.size, 2, none⟩ (.int .i64 x4)).setCell ⟨w.heap.size, 3, none⟩ (.slice A7 bs.length c7)) :=
    ((((Mvs.refl (fun k => k = w.heap.size) w7).setCell ⟨w.heap.size, 0, none⟩ _ (fun _ => rfl)).setCell ⟨w.heap.size, 1, none⟩ _ (fun _ => rfl)).setCell ⟨w.heap.size, 2, none⟩ _ (fun _ => rfl)).setCell ⟨w.heap.size, 3, none⟩ _ (fun _ => rfl)
  generalize (((w7.setCell ⟨w.heap.size, 0, none⟩ _).setCell ⟨w.heap.size, 1, none⟩ _).setCell ⟨w.heap.size, 2, none⟩ _).setCell ⟨w.heap.size, 3, none⟩ _ = W at *
  have hbc := k8.cell
  have hw06 : w0.heap.size ≤ w.heap.size := by have := H1.out.low; omega
  have hs6' := hsz.out
  have hk7 := K7.out.lt
  refine bodyPost_ret (v := .agg #[.int .i64 x1, .string ⟨nm.toArray⟩, .int .i64 x4, .slice A7 bs.length c7]) (by simp [results, Tryz.results129, go_sem, hbc]) rfl ⟨_, rfl, ?_, ?_, ?_, ?_⟩
  · refine AR.keep T7'.out.br m8 (fun A n c e e' => ?_)
    have := hv7.out A n c e
    have := hk6'.out
    omega
  · exact H7.out.keep m8 (fun e => hne2 e) (fun k e => by subst e; exact hw06)
  · exact M7.out.trans' m8 (fun i hi e => by omega)
  · intro A n c e
    have := hv7.out A n c e
    omega
end Go.Proofs.YthhnlkbjpahjeaaGreatDoor

end
