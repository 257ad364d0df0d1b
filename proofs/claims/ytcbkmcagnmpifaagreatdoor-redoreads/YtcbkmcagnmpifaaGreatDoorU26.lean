/- The whole record at the beginning: first. -/
/- redo's reader of bytes: pieces taken from the beginning. -/
import Derived.Test.YtcbkmcagnmpifaaGreatDoorU25
section
namespace Go.Proofs.YtcbkmcagnmpifaaGreatDoor
open Go.RowKit
/-- How many bytes the whole record at the beginning has. -/
def wholeN (bs : List UInt8) : Option Nat := if bs.length < 8 then none else if numN bs ≤ 400000 ∧ numN bs ≤ bs.length - 8 ∧ sumN 1 ((bs.drop 8).take (numN bs)) = numN (bs.drop 4) then some (numN bs) else none
def FirstNo (w w' : World) (e : Ending) : Prop := e = .returned (.tuple #[.slice none 0 0, .slice none 0 0, .bool false]) ∧ ∃ m, w' = w.drewN m
def FirstYes (v : Value) (w w' : World) (e : Ending) (bs : List UInt8) (n : Nat) : Prop := ∃ a1 n1 c1 a2 n2 c2, e = .returned (.tuple #[.slice (some a1) n1 c1, .slice (some a2) n2 c2, .bool true]) ∧ BR w (.slice (some a1) n1 c1) ((bs.drop 8).take n) ∧ BR w (.slice (some a2) n2 c2) (bs.drop (8 + n)) ∧ (∀ a k c, v = .slice (some a) k c → a2.block = a.block) ∧ ∃ m, w' = w.drewN m
def FirstOut (v : Value) (w w' : World) (e : Ending) (bs : List UInt8) : Prop := (wholeN bs = none → FirstNo w w' e) ∧ ∀ n, wholeN bs = some n → FirstYes v w w' e bs n
theorem BR.drewN {w : World} {v : Value} {bs : List UInt8} (h : BR w v bs) (n : Nat) : BR (w.drewN n) v bs := h.below (below_drewN w n)
theorem first_out_no {v : Value} {w w' : World} {e : Ending} {bs : List UInt8} (hw : wholeN bs = none) (h : FirstNo w w' e) : FirstOut v w w' e bs := ⟨fun _ => h, (fun n hn => by rw [hw] at hn; cases hn)⟩
theorem first_out_yes {v : Value} {w w' : World} {e : Ending} {bs : List UInt8} {n : Nat} (hw : wholeN bs = some n) (h : FirstYes v w w' e bs n) : FirstOut v w w' e bs := ⟨(fun hn => by rw [hw] at hn; cases hn), (fun n' hn => by rw [hw] at hn; cases hn; exact h)⟩
theorem whole_no {bs : List UInt8} (h : ¬ (numN bs ≤ 400000 ∧ numN bs ≤ bs.length - 8 ∧ sumN 1 ((bs.drop 8).take (numN bs)) = numN (bs.drop 4))) : wholeN bs = none := by
  unfold wholeN
  rw [if_neg h]
  split <;> rfl
theorem whole_yes {bs : List UInt8} (h8 : ¬ bs.length < 8) (h : numN bs ≤ 400000 ∧ numN bs ≤ bs.length - 8 ∧ sumN 1 ((bs.drop 8).take (numN bs)) = numN (bs.drop 4)) : wholeN bs = some (numN bs) := by
  unfold wholeN
  rw [if_neg h8, if_pos h]
section
variable {w : World} {bs : List UInt8} {g o c : Nat}
theorem BR.from (h : BR w (.slice (some ⟨g, o, none⟩) bs.length c) bs) (i : Nat) (hi : i ≤ bs.length) (hc : ¬ c = i) : BR w (.slice (some ⟨g, o + i, none⟩) (bs.length - i) (c - i)) (bs.drop i) := by
  have := (h.mid hi (Nat.le_refl _)).2 hc
  rw [Option.map_some, Go.WideShapes.add_plain, List.take_of_length_le (by rw [List.length_drop]; exact Nat.le_refl _)] at this
  exact this
theorem BR.from0 {A : Option Addr} (h : BR w (.slice A bs.length c) bs) (hi : c ≤ bs.length) : BR w (.slice A 0 0) (bs.drop c) := by
  have := (h.mid (i := c) hi (Nat.le_refl _)).1 rfl
  obtain ⟨A', c', hv, hl, _⟩ := BR.form h
  simp only [Value.slice.injEq] at hv
  obtain ⟨rfl, _, rfl⟩ := hv
  have e : bs.length - c = 0 := by omega
  rw [e, List.take_zero] at this
  rw [List.drop_eq_nil_of_le (by omega)]
  exact this
theorem BR.to (h : BR w (.slice (some ⟨g, o, none⟩) bs.length c) bs) (k : Nat) (hk : k ≤ bs.length) : BR w (.slice (some ⟨g, o, none⟩) k c) (bs.take k) := by
  obtain ⟨A', c', hv, hl, h3, h4, h5⟩ := h
  simp only [Value.slice.injEq] at hv
  obtain ⟨rfl, _, rfl⟩ := hv
  rw [List.length_map] at hl
  refine ⟨_, c, by rw [List.length_map, List.length_take, Nat.min_eq_left hk], by rw [List.length_map, List.length_take]; omega, h3, h4, fun hne => ?_⟩
  obtain ⟨g', o', hA, hg, h6⟩ := h5 (fun e => by
    have : bs = [] := by simpa using e
    subst this
    simp at hne)
  refine ⟨g', o', hA, hg, fun j u hu => ?_⟩
  have hj := (List.getElem?_eq_some_iff.1 hu).1
  rw [List.length_map, List.length_take] at hj
  rw [List.map_take, List.getElem?_take_of_lt (by omega)] at hu
  exact h6 j u hu
end
set_option maxRecDepth 20000 in
set_option maxHeartbeats 4000000 in
theorem first_short (bs : List UInt8) (w : World) (v : Value) (h : BR w v bs) (h8 : bs.length < 8) :
    Calls Tryz.prog 142 #[v] w fun e w' => FirstOut v w w' e bs := by
  obtain ⟨A, c, rfl, hl, hm, _⟩ := BR.form h
  have h8' : (bs.length : Int) < 8 := by omega
  have HW : Hid (wholeN bs = none) := by
    show wholeN bs = none
    unfold wholeN
    rw [if_pos h8]
  clear h
  go_enter Tryz.func142, Tryz.ntmps142
  go_wp2
  go_ret3
  exact first_out_no HW.out ⟨rfl, 0, rfl⟩
set_option maxRecDepth 20000 in
set_option maxHeartbeats 4000000 in
theorem first_long (bs : List UInt8) (w : World) (g o c : Nat) (h : BR w (.slice (some ⟨g, o, none⟩) bs.length c) bs) (h8 : ¬ bs.length < 8) (hN : ¬ numN bs ≤ 400000) :
    Calls Tryz.prog 142 #[(.slice (some ⟨g, o, none⟩) bs.length c)] w fun e w' => FirstOut (.slice (some ⟨g, o, none⟩) bs.length c) w w' e bs := by
  have h8' : ¬ (bs.length : Int) < 8 := by omega
  obtain ⟨A, c', hv, hl, hm, _⟩ := BR.form h
  simp only [Value.slice.injEq] at hv
  obtain ⟨rfl, _, rfl⟩ := hv
  have hm2 : c ≤ 9223372036854775807 := by simpa [maxLen] using hm
  clear hm
  have hb0 := hide h
  have hb4 := hide (h.from 4 (by omega) (by omega))
  have HN : Hid (∀ v bs', BR w v bs' → 4 ≤ bs'.length → ∀ m, Calls Tryz.prog 151 #[v] (w.drewN m) fun e w' => e = .returned (.int .u32 (numN bs')) ∧ ∃ n, w' = (w.drewN m).drewN n) := fun v bs' hb hl m => number_any bs' v _ (hb.drewN m) hl
  have l4 : (4 : Int) ≤ bs.length := by omega
  have l8 : (8 : Int) ≤ bs.length := by omega
  have c4 : ¬ c = 4 := by omega
  have hNl := numN_lt bs
  have hSl := numN_lt (bs.drop 4)
  have HW := hide (@whole_no bs)
  have HY := hide (@whole_yes bs h8)
  clear h
  have hN' : (400000 : Int) < numN bs := by omega
  clear hN
  by_cases hc8 : c = 8
  · subst hc8
    go_enter Tryz.func142, Tryz.ntmps142
    go_wp2_with fail
    go_quiet ((go_at_call 151; exact Calls.quiet_of (HN.out _ _ (by first | exact hb0.out | exact hb4.out) (by first | omega | (rw [List.length_drop]; omega)) _)))
    generalize numN bs = N at *
    go_wp2
    go_ret3
    exact first_out_no (HW.out (fun h => by omega)) ⟨rfl, _, rfl⟩
  · skip
    go_enter Tryz.func142, Tryz.ntmps142
    go_wp2_with fail
    go_quiet ((go_at_call 151; exact Calls.quiet_of (HN.out _ _ (by first | exact hb0.out | exact hb4.out) (by first | omega | (rw [List.length_drop]; omega)) _)))
    generalize numN bs = N at *
    go_wp2
    go_ret3
    exact first_out_no (HW.out (fun h => by omega)) ⟨rfl, _, rfl⟩
set_option maxRecDepth 20000 in
set_option maxHeartbeats 4000000 in
theorem first_cut (bs : List UInt8) (w : World) (g o c : Nat) (h : BR w (.slice (some ⟨g, o, none⟩) bs.length c) bs) (h8 : ¬ bs.length < 8) (hN : numN bs ≤ 400000) (hL : ¬ numN bs ≤ bs.length - 8) :
    Calls Tryz.prog 142 #[(.slice (some ⟨g, o, none⟩) bs.length c)] w fun e w' => FirstOut (.slice (some ⟨g, o, none⟩) bs.length c) w w' e bs := by
  have h8' : ¬ (bs.length : Int) < 8 := by omega
  obtain ⟨A, c', hv, hl, hm, _⟩ := BR.form h
  simp only [Value.slice.injEq] at hv
  obtain ⟨rfl, _, rfl⟩ := hv
  have hm2 : c ≤ 9223372036854775807 := by simpa [maxLen] using hm
  clear hm
  have hb0 := hide h
  have hb4 := hide (h.from 4 (by omega) (by omega))
  have HN : Hid (∀ v bs', BR w v bs' → 4 ≤ bs'.length → ∀ m, Calls Tryz.prog 151 #[v] (w.drewN m) fun e w' => e = .returned (.int .u32 (numN bs')) ∧ ∃ n, w' = (w.drewN m).drewN n) := fun v bs' hb hl m => number_any bs' v _ (hb.drewN m) hl
  have l4 : (4 : Int) ≤ bs.length := by omega
  have l8 : (8 : Int) ≤ bs.length := by omega
  have c4 : ¬ c = 4 := by omega
  have hNl := numN_lt bs
  have hSl := numN_lt (bs.drop 4)
  have HW := hide (@whole_no bs)
  have HY := hide (@whole_yes bs h8)
  clear h
  have hN' : decide ((400000 : Int) < numN bs) = false := by simp; omega
  have hL' : ((bs.length - 8 : Nat) : Int) < numN bs := by omega
  have HL := hide hL
  clear hN hL
  by_cases hc8 : c = 8
  · have h0' : (0 : Int) < numN bs := by omega
    subst hc8
    clear hm2 hL'
    go_enter Tryz.func142, Tryz.ntmps142
    go_wp2_with fail
    go_quiet ((go_at_call 151; exact Calls.quiet_of (HN.out _ _ (by first | exact hb0.out | exact hb4.out) (by first | omega | (rw [List.length_drop]; omega)) _)))
    generalize numN bs = N at *
    go_wp2
    go_ret3
    exact first_out_no (HW.out (fun h => HL.out h.2.1)) ⟨rfl, _, rfl⟩
  · skip
    go_enter Tryz.func142, Tryz.ntmps142
    go_wp2_with fail
    go_quiet ((go_at_call 151; exact Calls.quiet_of (HN.out _ _ (by first | exact hb0.out | exact hb4.out) (by first | omega | (rw [List.length_drop]; omega)) _)))
    generalize numN bs = N at *
    go_wp2
    go_ret3
    exact first_out_no (HW.out (fun h => HL.out h.2.1)) ⟨rfl, _, rfl⟩
set_option maxRecDepth 20000 in
set_option maxHeartbeats 4000000 in
theorem first_eight (bs : List UInt8) (w : World) (g o c : Nat) (h : BR w (.slice (some ⟨g, o, none⟩) bs.length c) bs) (h8 : ¬ bs.length < 8) (hN : numN bs ≤ 400000) (hL : numN bs ≤ bs.length - 8) (hc : c = 8) :
    Calls Tryz.prog 142 #[(.slice (some ⟨g, o, none⟩) bs.length c)] w fun e w' => FirstOut (.slice (some ⟨g, o, none⟩) bs.length c) w w' e bs := by
  subst hc
  have h8' : ¬ (bs.length : Int) < 8 := by omega
  obtain ⟨A, c', hv, hl, hm, _⟩ := BR.form h
  simp only [Value.slice.injEq] at hv
  obtain ⟨rfl, _, hc'⟩ := hv
  subst hc'
  clear hm
  have hb0 := hide h
  have hb4 := hide (h.from 4 (by omega) (by omega))
  have HN : Hid (∀ v bs', BR w v bs' → 4 ≤ bs'.length → ∀ m, Calls Tryz.prog 151 #[v] (w.drewN m) fun e w' => e = .returned (.int .u32 (numN bs')) ∧ ∃ n, w' = (w.drewN m).drewN n) := fun v bs' hb hl m => number_any bs' v _ (hb.drewN m) hl
  have l4 : (4 : Int) ≤ bs.length := by omega
  have l8 : (8 : Int) ≤ bs.length := by omega
  have hNl := numN_lt bs
  have hSl := numN_lt (bs.drop 4)
  have HW := hide (@whole_no bs)
  have HY := hide (@whole_yes bs h8)
  clear h
  have hN' : decide ((400000 : Int) < numN bs) = false := by simp; omega
  have hNz := hide (And.intro hN hL)
  have h0 : numN bs = 0 := by omega
  have h0' : (numN bs : Int) ≤ 0 := by omega
  have hheld : Hid (BR w (.slice (some ⟨g, o, none⟩) (numN bs) 0) ((bs.drop 8).take (numN bs))) := by
    have := hb0.out.from0 (by omega)
    rw [List.drop_eq_nil_of_le (show bs.length ≤ 8 by omega)] at this
    show BR _ _ _
    rw [h0, List.take_zero]
    exact this
  have hbeh : Hid (BR w (.slice (some ⟨g, o, none⟩) 0 0) (bs.drop (8 + numN bs))) := by
    show BR _ _ _
    rw [h0]
    exact hb0.out.from0 (by omega)
  have hs := hide (fun n : Nat => sum_any ((bs.drop 8).take (numN bs)) (.slice (some ⟨g, o, none⟩) (numN bs) 0) (w.drewN n) (hheld.out.drewN n))
  clear hN hL h0
  go_enter Tryz.func142, Tryz.ntmps142
  go_wp2_with fail
  go_quiet ((go_at_call 151; exact Calls.quiet_of (HN.out _ _ (by first | exact hb0.out | exact hb4.out) (by first | omega | (rw [List.length_drop]; omega)) _)))
  generalize numN bs = N at *
  generalize numN (bs.drop 4) = S at *
  generalize sumN 1 ((bs.drop 8).take N) = T at *
  by_cases hTS : T = S
  · subst hTS
    go_wp2_with fail
    go_quiet (fail)
    go_wp2_with (go_at_call 93; refine (hs.out _).mono ?_; rintro e w2 ⟨rfl, rfl⟩)
    go_ret3
    exact first_out_yes (HY.out ⟨hNz.out.1, hNz.out.2, by first | trivial | rfl⟩) ⟨_, _, _, _, _, _, rfl, hheld.out, hbeh.out, (fun a k c e => by cases e; rfl), _, rfl⟩
  · have hTS' : ¬ (T : Int) = S := by omega
    go_wp2_with fail
    go_quiet (fail)
    go_wp2_with (go_at_call 93; refine (hs.out _).mono ?_; rintro e w2 ⟨rfl, rfl⟩)
    go_ret3
    exact first_out_no (HW.out (fun h => hTS h.2.2)) ⟨rfl, _, rfl⟩
set_option maxRecDepth 20000 in
set_option maxHeartbeats 4000000 in
theorem first_all (bs : List UInt8) (w : World) (g o c : Nat) (h : BR w (.slice (some ⟨g, o, none⟩) bs.length c) bs) (h8 : ¬ bs.length < 8) (hN : numN bs ≤ 400000) (hL : numN bs ≤ bs.length - 8) (hc8 : ¬ c = 8) (hcN : c - 8 = numN bs) :
    Calls Tryz.prog 142 #[(.slice (some ⟨g, o, none⟩) bs.length c)] w fun e w' => FirstOut (.slice (some ⟨g, o, none⟩) bs.length c) w w' e bs := by
  have h8' : ¬ (bs.length : Int) < 8 := by omega
  obtain ⟨A, c', hv, hl, hm, _⟩ := BR.form h
  simp only [Value.slice.injEq] at hv
  obtain ⟨rfl, _, rfl⟩ := hv
  have hm2 : c ≤ 9223372036854775807 := by simpa [maxLen] using hm
  clear hm
  have hb0 := hide h
  have hb4 := hide (h.from 4 (by omega) (by omega))
  have HN : Hid (∀ v bs', BR w v bs' → 4 ≤ bs'.length → ∀ m, Calls Tryz.prog 151 #[v] (w.drewN m) fun e w' => e = .returned (.int .u32 (numN bs')) ∧ ∃ n, w' = (w.drewN m).drewN n) := fun v bs' hb hl m => number_any bs' v _ (hb.drewN m) hl
  have l4 : (4 : Int) ≤ bs.length := by omega
  have l8 : (8 : Int) ≤ bs.length := by omega
  have c4 : ¬ c = 4 := by omega
  have hNl := numN_lt bs
  have hSl := numN_lt (bs.drop 4)
  have HW := hide (@whole_no bs)
  have HY := hide (@whole_yes bs h8)
  clear h
  have hN' : decide ((400000 : Int) < numN bs) = false := by simp; omega
  have hNz := hide (And.intro hN hL)
  have hL' : ¬ ((bs.length - 8 : Nat) : Int) < numN bs := by omega
  have hL2 : (numN bs : Int) ≤ ((bs.length - 8 : Nat) : Int) := by omega
  have hb8 := hide (hb0.out.from 8 (by omega) hc8)
  have hheld : Hid (BR w (.slice (some ⟨g, o + 8, none⟩) (numN bs) (c - 8)) ((bs.drop 8).take (numN bs))) := by
    have := BR.to (bs := bs.drop 8) (by have := hb8.out; rw [← List.length_drop] at this; exact this) (numN bs) (by rw [List.length_drop]; omega)
    exact this
  have hs := hide (fun n : Nat => sum_any ((bs.drop 8).take (numN bs)) (.slice (some ⟨g, o + 8, none⟩) (numN bs) (c - 8)) (w.drewN n) (hheld.out.drewN n))
  have hbeh : Hid (BR w (.slice (some ⟨g, o + 8, none⟩) (bs.length - 8 - numN bs) 0) (bs.drop (8 + numN bs))) := by
    have := BR.from0 (bs := bs.drop 8) (by have := hb8.out; rw [← List.length_drop] at this; exact this) (by rw [List.length_drop]; omega)
    rw [List.drop_drop, hcN] at this
    rw [show bs.length - 8 - numN bs = 0 by omega]
    exact this
  rw [hcN] at hs hheld
  clear hN hL
  go_enter Tryz.func142, Tryz.ntmps142
  go_wp2_with fail
  go_quiet ((go_at_call 151; exact Calls.quiet_of (HN.out _ _ (by first | exact hb0.out | exact hb4.out) (by first | omega | (rw [List.length_drop]; omega)) _)))
  generalize numN bs = N at *
  generalize numN (bs.drop 4) = S at *
  generalize sumN 1 ((bs.drop 8).take N) = T at *
  by_cases hTS : T = S
  · subst hTS
    go_wp2_with fail
    go_quiet (fail)
    go_wp2_with (go_at_call 93; refine (hs.out _).mono ?_; rintro e w2 ⟨rfl, rfl⟩)
    go_ret3
    exact first_out_yes (HY.out ⟨hNz.out.1, hNz.out.2, by first | trivial | rfl⟩) ⟨_, _, _, _, _, _, rfl, hheld.out, hbeh.out, (fun a k c e => by cases e; rfl), _, rfl⟩
  · have hTS' : ¬ (T : Int) = S := by omega
    go_wp2_with fail
    go_quiet (fail)
    go_wp2_with (go_at_call 93; refine (hs.out _).mono ?_; rintro e w2 ⟨rfl, rfl⟩)
    go_ret3
    exact first_out_no (HW.out (fun h => hTS h.2.2)) ⟨rfl, _, rfl⟩
set_option maxRecDepth 20000 in
set_option maxHeartbeats 4000000 in
theorem first_mid (bs : List UInt8) (w : World) (g o c : Nat) (h : BR w (.slice (some ⟨g, o, none⟩) bs.length c) bs) (h8 : ¬ bs.length < 8) (hN : numN bs ≤ 400000) (hL : numN bs ≤ bs.length - 8) (hc8 : ¬ c = 8) (hcN : ¬ c - 8 = numN bs) :
    Calls Tryz.prog 142 #[(.slice (some ⟨g, o, none⟩) bs.length c)] w fun e w' => FirstOut (.slice (some ⟨g, o, none⟩) bs.length c) w w' e bs := by
  have h8' : ¬ (bs.length : Int) < 8 := by omega
  obtain ⟨A, c', hv, hl, hm, _⟩ := BR.form h
  simp only [Value.slice.injEq] at hv
  obtain ⟨rfl, _, rfl⟩ := hv
  have hm2 : c ≤ 9223372036854775807 := by simpa [maxLen] using hm
  clear hm
  have hb0 := hide h
  have hb4 := hide (h.from 4 (by omega) (by omega))
  have HN : Hid (∀ v bs', BR w v bs' → 4 ≤ bs'.length → ∀ m, Calls Tryz.prog 151 #[v] (w.drewN m) fun e w' => e = .returned (.int .u32 (numN bs')) ∧ ∃ n, w' = (w.drewN m).drewN n) := fun v bs' hb hl m => number_any bs' v _ (hb.drewN m) hl
  have l4 : (4 : Int) ≤ bs.length := by omega
  have l8 : (8 : Int) ≤ bs.length := by omega
  have c4 : ¬ c = 4 := by omega
  have hNl := numN_lt bs
  have hSl := numN_lt (bs.drop 4)
  have HW := hide (@whole_no bs)
  have HY := hide (@whole_yes bs h8)
  clear h
  have hN' : decide ((400000 : Int) < numN bs) = false := by simp; omega
  have hNz := hide (And.intro hN hL)
  have hL' : ¬ ((bs.length - 8 : Nat) : Int) < numN bs := by omega
  have hL2 : (numN bs : Int) ≤ ((bs.length - 8 : Nat) : Int) := by omega
  have hb8 := hide (hb0.out.from 8 (by omega) hc8)
  have hheld : Hid (BR w (.slice (some ⟨g, o + 8, none⟩) (numN bs) (c - 8)) ((bs.drop 8).take (numN bs))) := by
    have := BR.to (bs := bs.drop 8) (by have := hb8.out; rw [← List.length_drop] at this; exact this) (numN bs) (by rw [List.length_drop]; omega)
    exact this
  have hs := hide (fun n : Nat => sum_any ((bs.drop 8).take (numN bs)) (.slice (some ⟨g, o + 8, none⟩) (numN bs) (c - 8)) (w.drewN n) (hheld.out.drewN n))
  have hbeh : Hid (BR w (.slice (some ⟨g, o + 8 + numN bs, none⟩) (bs.length - 8 - numN bs) (c - 8 - numN bs)) (bs.drop (8 + numN bs))) := by
    have := BR.from (bs := bs.drop 8) (by have := hb8.out; rw [← List.length_drop] at this; exact this) (numN bs) (by rw [List.length_drop]; omega) hcN
    rw [List.drop_drop, List.length_drop] at this
    exact this
  clear hN hL
  go_enter Tryz.func142, Tryz.ntmps142
  go_wp2_with fail
  go_quiet ((go_at_call 151; exact Calls.quiet_of (HN.out _ _ (by first | exact hb0.out | exact hb4.out) (by first | omega | (rw [List.length_drop]; omega)) _)))
  generalize numN bs = N at *
  generalize numN (bs.drop 4) = S at *
  generalize sumN 1 ((bs.drop 8).take N) = T at *
  by_cases hTS : T = S
  · subst hTS
    go_wp2_with fail
    go_quiet (fail)
    go_wp2_with (go_at_call 93; refine (hs.out _).mono ?_; rintro e w2 ⟨rfl, rfl⟩)
    go_ret3
    exact first_out_yes (HY.out ⟨hNz.out.1, hNz.out.2, by first | trivial | rfl⟩) ⟨_, _, _, _, _, _, rfl, hheld.out, hbeh.out, (fun a k c e => by cases e; rfl), _, rfl⟩
  · have hTS' : ¬ (T : Int) = S := by omega
    go_wp2_with fail
    go_quiet (fail)
    go_wp2_with (go_at_call 93; refine (hs.out _).mono ?_; rintro e w2 ⟨rfl, rfl⟩)
    go_ret3
    exact first_out_no (HW.out (fun h => hTS h.2.2)) ⟨rfl, _, rfl⟩
theorem first_any (bs : List UInt8) (v : Value) (w : World) (h : BR w v bs) :
    Calls Tryz.prog 142 #[v] w fun e w' => FirstOut v w w' e bs := by
  by_cases h8 : bs.length < 8
  · exact first_short bs w v h h8
  · obtain ⟨A, c, rfl, hl, hm, _⟩ := BR.form h
    obtain ⟨g, o, rfl, hg, _, _⟩ := h.at (List.ne_nil_of_length_pos (by omega))
    by_cases hN : numN bs ≤ 400000
    · by_cases hL : numN bs ≤ bs.length - 8
      · by_cases hc8 : c = 8
        · exact first_eight bs w g o c h h8 hN hL hc8
        · by_cases hcN : c - 8 = numN bs
          · exact first_all bs w g o c h h8 hN hL hc8 hcN
          · exact first_mid bs w g o c h h8 hN hL hc8 hcN
      · exact first_cut bs w g o c h h8 hN hL
    · exact first_long bs w g o c h h8 hN
end Go.Proofs.YtcbkmcagnmpifaaGreatDoor

end
section
namespace Go.Proofs.YtcbkmcagnmpifaaGreatDoor
open Go.RowKit
/-- Bytes of a slice that is nil, or at a plain place. -/
def RB (w : World) (v : Value) (bs : List UInt8) : Prop := (v = .slice none 0 0 ∧ bs = []) ∨ ∃ g o c, v = .slice (some ⟨g, o, none⟩) bs.length c ∧ BR w v bs
theorem RB.br {w : World} {v : Value} {bs : List UInt8} (h : RB w v bs) : BR w v bs := by
  rcases h with ⟨rfl, rfl⟩ | ⟨g, o, c, rfl, h⟩
  · exact ⟨none, 0, rfl, Nat.le_refl _, Nat.zero_le _, fun _ => rfl, fun h => absurd rfl h⟩
  · exact h
theorem RB.nil (w : World) : RB w (.slice none 0 0) [] := .inl ⟨rfl, rfl⟩
def takeA (n : Nat) (l : List UInt8) : List UInt8 := if l.length < n then [] else l.take n
def takeB (n : Nat) (l : List UInt8) : List UInt8 := if l.length < n then l else l.drop n
def takeS (n : Nat) (l : List UInt8) (s : Bool) : Bool := if l.length < n then true else s
/-- The reader in memory: what is left of the bytes lies in the world in which it began. -/
structure RDr (w0 w : World) (r : Nat) (rest : List UInt8) (short : Bool) : Prop where
  below : Below w0.heap.size w0 w
  low : w0.heap.size ≤ r
  blk : ∃ v, Blk w r #[v, .bool short] 67 ∧ RB w0 v rest
section
variable {w0 w w' : World} {r : Nat} {rest : List UInt8} {short : Bool}
theorem RDr.lt (h : RDr w0 w r rest short) : r < w.heap.size := by
  obtain ⟨v, hk, _⟩ := h.blk
  exact hk.lt
theorem RDr.keep {S : Nat → Prop} (h : RDr w0 w r rest short) (hm : Mvs S w w') (hS : ¬ S r) (h0 : ∀ k, S k → w0.heap.size ≤ k) : RDr w0 w' r rest short := by
  obtain ⟨v, hk, hb⟩ := h.blk
  exact ⟨h.below.trans (hm.below (fun k hk c => by have := h0 k c; omega) h.below.size), h.low, v, hm.blk hk hS, hb⟩
theorem RDr.then (h : RDr w0 w r rest short) (hb : Below w.heap.size w w') : RDr w0 w' r rest short := h.keep (S := fun _ => False) (Mvs.of_below hb) (fun c => c) (fun _ c => c.elim)
end
set_option maxRecDepth 8000 in
set_option maxHeartbeats 2000000 in
theorem rtake_any (w0 w : World) (r : Nat) (rest : List UInt8) (short : Bool) (h : RDr w0 w r rest short) (n : Nat) (hn : n ≤ 4294967296) :
    Calls Tryz.prog 57 #[pv r, .int .i64 n] w fun e w' => ∃ v, e = .returned v ∧ RB w0 v (takeA n rest) ∧ RDr w0 w' r (takeB n rest) (takeS n rest short) ∧ Mvs (fun k => k = r) w w' := by
  have HR := hide h
  obtain ⟨v, hk, hb⟩ := h.blk
  have hc := hk.cell
  have hf := hk.frozen
  have HK := hide hk
  have hm1 : ∀ (i : Nat) (u : Value), Mvs (fun k => k = r) w (w.setCell ⟨r, i, none⟩ u) := fun i u => (Mvs.refl (fun k => k = r) w).setCell ⟨r, i, none⟩ _ (fun _ => rfl)
  have HM := hide hm1
  have hbel : Hid (∀ i u, Below w0.heap.size w0 (w.setCell ⟨r, i, none⟩ u)) := fun i u => h.below.trans ((hm1 i u).below (fun k hk c => by have := h.low; omega) h.below.size)
  have HB := hide hb
  clear hk h hm1
  by_cases hlt : rest.length < n
  · have e1 : takeA n rest = [] := if_pos hlt
    have e2 : takeB n rest = rest := if_pos hlt
    have e3 : takeS n rest short = true := if_pos hlt
    rw [e1, e2, e3]
    clear e1 e2 e3
    have g1 : (rest.length : Int) < n := by omega
    obtain ⟨A, c, rfl, _⟩ := BR.form hb.br
    clear hb
    unfold pv
    go_enter Tryz.func57, Tryz.ntmps57
    go_wp2
    go_ret
    exact ⟨_, rfl, RB.nil _, ⟨hbel.out 1 _, HR.out.low, _, HK.out.set 1 _, HB.out⟩, HM.out 1 _⟩
  · have e1 : takeA n rest = rest.take n := if_neg hlt
    have e2 : takeB n rest = rest.drop n := if_neg hlt
    have e3 : takeS n rest short = short := if_neg hlt
    rw [e1, e2, e3]
    clear e1 e2 e3
    have g1 : ¬ (rest.length : Int) < n := by omega
    rcases hb with ⟨rfl, rfl⟩ | ⟨g, o, c, rfl, hb⟩
    · have n0 : n = 0 := by simpa using hlt
      subst n0
      clear hlt g1
      unfold pv
      go_enter Tryz.func57, Tryz.ntmps57
      go_wp2
      go_ret
      exact ⟨_, rfl, RB.nil _, ⟨hbel.out 0 _, HR.out.low, _, HK.out.set 0 _, RB.nil _⟩, HM.out 0 _⟩
    · obtain ⟨A, c', hv, hl, hm, _⟩ := BR.form hb
      simp only [Value.slice.injEq] at hv
      obtain ⟨rfl, _, rfl⟩ := hv
      have hm2 : c ≤ 9223372036854775807 := by simpa [maxLen] using hm
      have g2 : (n : Int) ≤ (rest.length : Int) := by omega
      have g3 : n ≤ rest.length := by omega
      have g4 : (n : Int) ≤ (c : Int) := by omega
      have g5 : n ≤ c := by omega
      have hT : RB w0 (.slice (some ⟨g, o, none⟩) n c) (rest.take n) := .inr ⟨g, o, c, by rw [List.length_take, Nat.min_eq_left g3], hb.to n g3⟩
      replace hT := hide hT
      clear hm
      by_cases hcn : c = n
      · have hD : RB w0 (.slice (some ⟨g, o, none⟩) 0 0) (rest.drop n) := by
          have : rest.drop n = [] := List.drop_eq_nil_of_le (by omega)
          refine .inr ⟨g, o, 0, by rw [this]; rfl, ?_⟩
          have h0 := hb.from0 (by omega)
          rw [hcn] at h0
          exact h0
        replace hD := hide hD
        have e0 : rest.length - n = 0 := by omega
        subst hcn
        clear hb
        unfold pv
        go_enter Tryz.func57, Tryz.ntmps57
        go_wp2
        go_ret
        refine ⟨_, rfl, hT.out, ⟨hbel.out 0 _, HR.out.low, _, HK.out.set 0 _, ?_⟩, HM.out 0 _⟩
        first | exact hD.out | (rw [e0]; exact hD.out)
      · have hD : RB w0 (.slice (some ⟨g, o + n, none⟩) (rest.length - n) (c - n)) (rest.drop n) := .inr ⟨g, o + n, c - n, by rw [List.length_drop], hb.from n g3 hcn⟩
        replace hD := hide hD
        clear hb
        unfold pv
        go_enter Tryz.func57, Tryz.ntmps57
        go_wp2
        go_ret
        exact ⟨_, rfl, hT.out, ⟨hbel.out 0 _, HR.out.low, _, HK.out.set 0 _, hD.out⟩, HM.out 0 _⟩
end Go.Proofs.YtcbkmcagnmpifaaGreatDoor

end
