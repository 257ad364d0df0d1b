/- The document's Whole. -/
import Derived.Test.YtblopcpiapenpaaCF2
namespace Go.Proofs.Ytblopcpiapenpaa
open Go.RowKit
/-- How many bytes the whole record at the beginning has; -1: there is none. -/
def wholeI (bs : List UInt8) : Int := match wholeN bs with | none => -1 | some n => n
theorem wholeI_no {bs : List UInt8} (h : wholeN bs = none) : wholeI bs = -1 := by
  unfold wholeI
  rw [h]
theorem wrap_sub8 (L : Nat) (h8 : ¬ L < 8) (h : L ≤ 9223372036854775807) : IntKind.i64.wrap ((L : Int) - 8) = (L : Int) - 8 := by
  rw [IntKind.wrap_i64]
  omega
theorem wrap_add8 (N : Nat) (h : N < 4294967296) : IntKind.i64.wrap (8 + (N : Int)) = 8 + (N : Int) := by
  rw [IntKind.wrap_i64]
  omega
theorem wholeI_yes {bs : List UInt8} {n : Nat} (h : wholeN bs = some n) : wholeI bs = n := by
  unfold wholeI
  rw [h]
set_option maxRecDepth 20000 in
set_option maxHeartbeats 4000000 in
theorem whole_short (bs : List UInt8) (w : World) (v : Value) (h : BR w v bs) (h8 : bs.length < 8) :
    Calls Try.prog 14 #[v] w fun e w' => e = .returned (.int .i64 (wholeI bs)) ∧ ∃ m, w' = w.drewN m := by
  obtain ⟨A, c, rfl, hl, hm, _⟩ := BR.form h
  have h8' : (bs.length : Int) < 8 := by omega
  have HW : Hid (wholeI bs = -1) := wholeI_no (by
    unfold wholeN
    rw [if_pos h8])
  clear h
  go_enter Try.func14, Try.ntmps14
  go_wp2
  go_ret
  exact ⟨ret_int HW.out.symm, 0, rfl⟩
set_option maxRecDepth 20000 in
set_option maxHeartbeats 4000000 in
theorem whole_long (bs : List UInt8) (w : World) (g o c : Nat) (h : BR w (.slice (some ⟨g, o, none⟩) bs.length c) bs) (h8 : ¬ bs.length < 8) (hN : ¬ numN bs ≤ 400000) :
    Calls Try.prog 14 #[(.slice (some ⟨g, o, none⟩) bs.length c)] w fun e w' => e = .returned (.int .i64 (wholeI bs)) ∧ ∃ m, w' = w.drewN m := by
  have h8' : ¬ (bs.length : Int) < 8 := by omega
  obtain ⟨A, c', hv, hl, hm, _⟩ := BR.form h
  simp only [Value.slice.injEq] at hv
  obtain ⟨rfl, _, rfl⟩ := hv
  have hm2 : c ≤ 9223372036854775807 := by simpa [maxLen] using hm
  clear hm
  have hb0 := hide h
  have hb4 := hide (h.from 4 (by omega) (by omega))
  have HN : Hid (∀ v bs', BR w v bs' → 4 ≤ bs'.length → ∀ u m, u = w.drewN m → ∀ k, Calls Try.prog 21 #[v] (u.drewN k) fun e w' => e = .returned (.int .i64 (numN bs')) ∧ ∃ n, w' = (u.drewN k).drewN n) := by
    rintro v bs' hb hl u m rfl k
    exact value_any bs' v _ ((hb.drewN m).drewN k) hl
  have HN0 : Hid (Calls Try.prog 21 #[.slice (some ⟨g, o, none⟩) bs.length c] w fun e w' => e = .returned (.int .i64 (numN bs)) ∧ ∃ n, w' = w.drewN n) := value_any bs _ w h (by omega)
  have l4 : (4 : Int) ≤ bs.length := by omega
  have l8 : (8 : Int) ≤ bs.length := by omega
  have c4 : ¬ c = 4 := by omega
  have hNl := numN_lt bs
  have hSl := numN_lt (bs.drop 4)
  have HW := hide (fun h => wholeI_no (@whole_no bs h))
  have HY := hide (fun h => wholeI_yes (@whole_yes bs h8 h))
  clear h
  have hN' : decide ((400000 : Int) < numN bs) = true := by simp; omega
  have HW' := hide (HW.out (fun h => hN h.1))
  clear hN
  go_enter Try.func14, Try.ntmps14
  go_wp2_with (go_at_call 21; refine HN0.out.mono ?_; rintro e w1 ⟨rfl, m0, hw1⟩; replace hw1 := hide hw1)
  generalize numN bs = N at *
  go_quiet (fail)
  go_wp2
  go_ret
  exact ⟨ret_int HW'.out.symm, _, by rw [hw1.out]; first | rfl | rw [World.drewN_drewN]⟩
set_option maxRecDepth 20000 in
set_option maxHeartbeats 4000000 in
theorem whole_cut (bs : List UInt8) (w : World) (g o c : Nat) (h : BR w (.slice (some ⟨g, o, none⟩) bs.length c) bs) (h8 : ¬ bs.length < 8) (hN : numN bs ≤ 400000) (hL : ¬ numN bs ≤ bs.length - 8) :
    Calls Try.prog 14 #[(.slice (some ⟨g, o, none⟩) bs.length c)] w fun e w' => e = .returned (.int .i64 (wholeI bs)) ∧ ∃ m, w' = w.drewN m := by
  have h8' : ¬ (bs.length : Int) < 8 := by omega
  obtain ⟨A, c', hv, hl, hm, _⟩ := BR.form h
  simp only [Value.slice.injEq] at hv
  obtain ⟨rfl, _, rfl⟩ := hv
  have hm2 : c ≤ 9223372036854775807 := by simpa [maxLen] using hm
  clear hm
  have hb0 := hide h
  have hb4 := hide (h.from 4 (by omega) (by omega))
  have HN : Hid (∀ v bs', BR w v bs' → 4 ≤ bs'.length → ∀ u m, u = w.drewN m → ∀ k, Calls Try.prog 21 #[v] (u.drewN k) fun e w' => e = .returned (.int .i64 (numN bs')) ∧ ∃ n, w' = (u.drewN k).drewN n) := by
    rintro v bs' hb hl u m rfl k
    exact value_any bs' v _ ((hb.drewN m).drewN k) hl
  have HN0 : Hid (Calls Try.prog 21 #[.slice (some ⟨g, o, none⟩) bs.length c] w fun e w' => e = .returned (.int .i64 (numN bs)) ∧ ∃ n, w' = w.drewN n) := value_any bs _ w h (by omega)
  have l4 : (4 : Int) ≤ bs.length := by omega
  have l8 : (8 : Int) ≤ bs.length := by omega
  have c4 : ¬ c = 4 := by omega
  have hNl := numN_lt bs
  have hSl := numN_lt (bs.drop 4)
  have HW := hide (fun h => wholeI_no (@whole_no bs h))
  have HY := hide (fun h => wholeI_yes (@whole_yes bs h8 h))
  clear h
  have hN' : decide ((400000 : Int) < numN bs) = false := by simp; omega
  have hL' : decide ((bs.length : Int) - 8 < numN bs) = true := by simp; omega
  have HW' := hide (HW.out (fun h => hL h.2.1))
  clear hN hL
  go_enter Try.func14, Try.ntmps14
  go_wp2_with (go_at_call 21; refine HN0.out.mono ?_; rintro e w1 ⟨rfl, m0, hw1⟩; replace hw1 := hide hw1)
  generalize numN bs = N at *
  go_quiet (fail)
  go_wp2
  go_ret
  exact ⟨ret_int HW'.out.symm, _, by rw [hw1.out]; first | rfl | rw [World.drewN_drewN]⟩
set_option maxRecDepth 20000 in
set_option maxHeartbeats 4000000 in
theorem whole_eight (bs : List UInt8) (w : World) (g o c : Nat) (h : BR w (.slice (some ⟨g, o, none⟩) bs.length c) bs) (h8 : ¬ bs.length < 8) (hN : numN bs ≤ 400000) (hL : numN bs ≤ bs.length - 8) (hc : c = 8) :
    Calls Try.prog 14 #[(.slice (some ⟨g, o, none⟩) bs.length c)] w fun e w' => e = .returned (.int .i64 (wholeI bs)) ∧ ∃ m, w' = w.drewN m := by
  subst hc
  have h8' : ¬ (bs.length : Int) < 8 := by omega
  obtain ⟨A, c', hv, hl, hm, _⟩ := BR.form h
  simp only [Value.slice.injEq] at hv
  obtain ⟨rfl, _, hc'⟩ := hv
  subst hc'
  clear hm
  have hb0 := hide h
  have hb4 := hide (h.from 4 (by omega) (by omega))
  have HN : Hid (∀ v bs', BR w v bs' → 4 ≤ bs'.length → ∀ u m, u = w.drewN m → ∀ k, Calls Try.prog 21 #[v] (u.drewN k) fun e w' => e = .returned (.int .i64 (numN bs')) ∧ ∃ n, w' = (u.drewN k).drewN n) := by
    rintro v bs' hb hl u m rfl k
    exact value_any bs' v _ ((hb.drewN m).drewN k) hl
  have HN0 : Hid (Calls Try.prog 21 #[.slice (some ⟨g, o, none⟩) bs.length 8] w fun e w' => e = .returned (.int .i64 (numN bs)) ∧ ∃ n, w' = w.drewN n) := value_any bs _ w h (by omega)
  have l4 : (4 : Int) ≤ bs.length := by omega
  have l8 : (8 : Int) ≤ bs.length := by omega
  have hNl := numN_lt bs
  have hSl := numN_lt (bs.drop 4)
  have HW := hide (fun h => wholeI_no (@whole_no bs h))
  have HY := hide (fun h => wholeI_yes (@whole_yes bs h8 h))
  clear h
  have hw1 := wrap_sub8 bs.length h8 (by omega)
  have hw2 := wrap_add8 (numN bs) hNl
  have hN' : decide ((400000 : Int) < numN bs) = false := by simp; omega
  have hL' : decide ((bs.length : Int) - 8 < numN bs) = false := by simp; omega
  have hNz := hide (And.intro hN hL)
  have hL3 : (8 : Int) + numN bs ≤ 8 := by omega
  have hL4 : (8 : Int) ≤ 8 + numN bs := by omega
  have HN4 := hide (HN.out _ _ hb4.out (by rw [List.length_drop]; omega))
  have h0 : numN bs = 0 := by omega
  have hheld : Hid (BR w (.slice (some ⟨g, o, none⟩) 0 0) ((bs.drop 8).take (numN bs))) := by
    have := hb0.out.from0 (by omega)
    rw [List.drop_eq_nil_of_le (show bs.length ≤ 8 by omega)] at this
    show BR _ _ _
    rw [h0, List.take_zero]
    exact this
  clear h0
  have HM : Hid (∀ (s : Int), s = ((1 : Nat) : Int) → ∀ u m, u = w.drewN m → ∀ k, Calls Try.prog 9 #[.int .u32 s, (.slice (some ⟨g, o, none⟩) 0 0)] (u.drewN k) fun e w' => e = .returned (.int .u32 (sumN 1 ((bs.drop 8).take (numN bs)))) ∧ w' = u.drewN k) := by
    rintro s rfl u m rfl k
    exact rmore_any 1 (by omega) _ _ _ ((hheld.out.drewN m).drewN k)
  have hTl := sumN_lt 1 ((bs.drop 8).take (numN bs))
  have l44 := hide (show 4 ≤ (bs.drop 4).length by rw [List.length_drop]; omega)
  clear hN hL
  go_enter Try.func14, Try.ntmps14
  go_wp2_with (go_at_call 21; refine HN0.out.mono ?_; rintro e w1 ⟨rfl, m0, hw1⟩; replace hw1 := hide hw1)
  generalize numN bs = N at *
  generalize numN (bs.drop 4) = S at *
  generalize sumN 1 ((bs.drop 8).take N) = T at *
  by_cases hTS : T = S
  · subst hTS
    have HY' := hide (HY.out ⟨hNz.out.1, hNz.out.2, rfl⟩)
    go_quiet ((first | (go_at_call 21; exact Calls.quiet_of (HN4.out _ _ hw1.out _)) | (go_at_call 9; exact Calls.quiet_of_same (HM.out _ rfl _ _ hw1.out _))))
    go_wp2
    go_ret
    exact ⟨ret_int HY'.out.symm, _, by rw [hw1.out]; first | rfl | rw [World.drewN_drewN]⟩
  · have hTS' : ¬ (S : Int) = T := by omega
    have HW' := hide (HW.out (fun h => hTS h.2.2))
    go_quiet ((first | (go_at_call 21; exact Calls.quiet_of (HN4.out _ _ hw1.out _)) | (go_at_call 9; exact Calls.quiet_of_same (HM.out _ rfl _ _ hw1.out _))))
    go_wp2
    go_ret
    exact ⟨ret_int HW'.out.symm, _, by rw [hw1.out]; first | rfl | rw [World.drewN_drewN]⟩
set_option maxRecDepth 20000 in
set_option maxHeartbeats 4000000 in
theorem whole_all (bs : List UInt8) (w : World) (g o c : Nat) (h : BR w (.slice (some ⟨g, o, none⟩) bs.length c) bs) (h8 : ¬ bs.length < 8) (hN : numN bs ≤ 400000) (hL : numN bs ≤ bs.length - 8) (hc8 : ¬ c = 8) :
    Calls Try.prog 14 #[(.slice (some ⟨g, o, none⟩) bs.length c)] w fun e w' => e = .returned (.int .i64 (wholeI bs)) ∧ ∃ m, w' = w.drewN m := by
  have h8' : ¬ (bs.length : Int) < 8 := by omega
  obtain ⟨A, c', hv, hl, hm, _⟩ := BR.form h
  simp only [Value.slice.injEq] at hv
  obtain ⟨rfl, _, rfl⟩ := hv
  have hm2 : c ≤ 9223372036854775807 := by simpa [maxLen] using hm
  clear hm
  have hb0 := hide h
  have hb4 := hide (h.from 4 (by omega) (by omega))
  have HN : Hid (∀ v bs', BR w v bs' → 4 ≤ bs'.length → ∀ u m, u = w.drewN m → ∀ k, Calls Try.prog 21 #[v] (u.drewN k) fun e w' => e = .returned (.int .i64 (numN bs')) ∧ ∃ n, w' = (u.drewN k).drewN n) := by
    rintro v bs' hb hl u m rfl k
    exact value_any bs' v _ ((hb.drewN m).drewN k) hl
  have HN0 : Hid (Calls Try.prog 21 #[.slice (some ⟨g, o, none⟩) bs.length c] w fun e w' => e = .returned (.int .i64 (numN bs)) ∧ ∃ n, w' = w.drewN n) := value_any bs _ w h (by omega)
  have l4 : (4 : Int) ≤ bs.length := by omega
  have l8 : (8 : Int) ≤ bs.length := by omega
  have c4 : ¬ c = 4 := by omega
  have hNl := numN_lt bs
  have hSl := numN_lt (bs.drop 4)
  have HW := hide (fun h => wholeI_no (@whole_no bs h))
  have HY := hide (fun h => wholeI_yes (@whole_yes bs h8 h))
  clear h
  have hw1 := wrap_sub8 bs.length h8 (by omega)
  have hw2 := wrap_add8 (numN bs) hNl
  have hN' : decide ((400000 : Int) < numN bs) = false := by simp; omega
  have hL' : decide ((bs.length : Int) - 8 < numN bs) = false := by simp; omega
  have hNz := hide (And.intro hN hL)
  have hL3 : (8 : Int) + numN bs ≤ c := by omega
  have hL4 : (8 : Int) ≤ 8 + numN bs := by omega
  have HN4 := hide (HN.out _ _ hb4.out (by rw [List.length_drop]; omega))
  have hb8 := hide (hb0.out.from 8 (by omega) hc8)
  have hheld : Hid (BR w (.slice (some ⟨g, o + 8, none⟩) (numN bs) (c - 8)) ((bs.drop 8).take (numN bs))) := by
    have := BR.to (bs := bs.drop 8) (by have := hb8.out; rw [← List.length_drop] at this; exact this) (numN bs) (by rw [List.length_drop]; omega)
    exact this
  have HM : Hid (∀ (s : Int), s = ((1 : Nat) : Int) → ∀ u m, u = w.drewN m → ∀ k, Calls Try.prog 9 #[.int .u32 s, (.slice (some ⟨g, o + 8, none⟩) (numN bs) (c - 8))] (u.drewN k) fun e w' => e = .returned (.int .u32 (sumN 1 ((bs.drop 8).take (numN bs)))) ∧ w' = u.drewN k) := by
    rintro s rfl u m rfl k
    exact rmore_any 1 (by omega) _ _ _ ((hheld.out.drewN m).drewN k)
  have hTl := sumN_lt 1 ((bs.drop 8).take (numN bs))
  have l44 := hide (show 4 ≤ (bs.drop 4).length by rw [List.length_drop]; omega)
  clear hN hL
  go_enter Try.func14, Try.ntmps14
  go_wp2_with (go_at_call 21; refine HN0.out.mono ?_; rintro e w1 ⟨rfl, m0, hw1⟩; replace hw1 := hide hw1)
  generalize numN bs = N at *
  generalize numN (bs.drop 4) = S at *
  generalize sumN 1 ((bs.drop 8).take N) = T at *
  by_cases hTS : T = S
  · subst hTS
    have HY' := hide (HY.out ⟨hNz.out.1, hNz.out.2, rfl⟩)
    go_quiet ((first | (go_at_call 21; exact Calls.quiet_of (HN4.out _ _ hw1.out _)) | (go_at_call 9; exact Calls.quiet_of_same (HM.out _ rfl _ _ hw1.out _))))
    go_wp2
    go_ret
    exact ⟨ret_int HY'.out.symm, _, by rw [hw1.out]; first | rfl | rw [World.drewN_drewN]⟩
  · have hTS' : ¬ (S : Int) = T := by omega
    have HW' := hide (HW.out (fun h => hTS h.2.2))
    go_quiet ((first | (go_at_call 21; exact Calls.quiet_of (HN4.out _ _ hw1.out _)) | (go_at_call 9; exact Calls.quiet_of_same (HM.out _ rfl _ _ hw1.out _))))
    go_wp2
    go_ret
    exact ⟨ret_int HW'.out.symm, _, by rw [hw1.out]; first | rfl | rw [World.drewN_drewN]⟩
theorem whole_any (bs : List UInt8) (v : Value) (w : World) (h : BR w v bs) :
    Calls Try.prog 14 #[v] w fun e w' => e = .returned (.int .i64 (wholeI bs)) ∧ ∃ m, w' = w.drewN m := by
  by_cases h8 : bs.length < 8
  · exact whole_short bs w v h h8
  · obtain ⟨A, c, rfl, hl, hm, _⟩ := BR.form h
    obtain ⟨g, o, rfl, hg, _, _⟩ := h.at (List.ne_nil_of_length_pos (by omega))
    by_cases hN : numN bs ≤ 400000
    · by_cases hL : numN bs ≤ bs.length - 8
      · by_cases hc8 : c = 8
        · exact whole_eight bs w g o c h h8 hN hL hc8
        · exact whole_all bs w g o c h h8 hN hL hc8
      · exact whole_cut bs w g o c h h8 hN hL
    · exact whole_long bs w g o c h h8 hN
end Go.Proofs.Ytblopcpiapenpaa
