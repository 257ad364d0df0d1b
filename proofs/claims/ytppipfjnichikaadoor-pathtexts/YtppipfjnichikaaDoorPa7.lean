/- The document's Local and Domain. -/
import Derived.Test.YtppipfjnichikaaDoorPa4
namespace Go.Proofs.YtppipfjnichikaaDoor
open Go.RowKit Go.Shelf
theorem ne_num {c : UInt8} {k : Int} (d : UInt8) (hd : (d.toNat : Int) = k) (h : c ≠ d) : ¬ (c.toNat : Int) = k ∧ ((c.toNat : Int) == k) = false ∧ ((c.toNat : Int) != k) = true := by
  have : ¬ (c.toNat : Int) = k := fun e => h (UInt8.toNat_inj.1 (by omega))
  exact ⟨this, by rw [beq_eq_false_iff_ne]; exact this, by simp [this]⟩
/-- A dot, or nothing, stands ahead of place i. -/
def prevB (s : List UInt8) : Nat → Bool
  | 0 => true
  | j + 1 => s[j]? == some 46
theorem scanL_drop (l : List UInt8) (b : Bool) (i : Nat) (h : i < l.length) : scanL b (l.drop i) = if l[i] = 46 then !b && scanL true (l.drop (i + 1)) else atB l[i] && scanL false (l.drop (i + 1)) := by
  rw [List.drop_eq_getElem_cons h, scanL]
theorem prevB_next (l : List UInt8) (i : Nat) (h : i < l.length) : prevB l (i + 1) = (l[i] == 46) := by
  show (l[i]? == some 46) = _
  rw [List.getElem?_eq_getElem h]
  rfl
set_option maxRecDepth 20000 in
set_option maxHeartbeats 4000000 in
theorem rlocal_any (l : List UInt8) (w : World) : Calls Tryd.prog 17 #[.string ⟨l.toArray⟩] w fun e w' => e = .returned (.bool (localB l)) ∧ w' = w := by
  by_cases h1 : l.length < 1
  · have HN : Hid (localB l = false) := by
      have : l = [] := List.eq_nil_of_length_eq_zero (by omega)
      rw [this]
      exact localB_nil
    have g1 : (l.length : Int) < 1 := by omega
    go_enter Tryd.func17, Tryd.ntmps17
    go_wp2
    go_ret
    exact ⟨by rw [HN.out]; rfl, rfl⟩
  have g1 : ¬ (l.length : Int) < 1 := by omega
  have g1' : decide ((l.length : Int) < 1) = false := decide_eq_false g1
  by_cases h2 : 64 < l.length
  · have HN : Hid (localB l = false) := by
      show _ = _
      unfold localB
      rw [decide_eq_false (by omega)]
      rfl
    have g2 : 64 < (l.length : Int) := by omega
    go_enter Tryd.func17, Tryd.ntmps17
    go_wp2
    go_ret
    exact ⟨by rw [HN.out]; rfl, rfl⟩
  have g2 : ¬ 64 < (l.length : Int) := by omega
  have g2' : decide (64 < (l.length : Int)) = false := decide_eq_false g2
  have HV : Hid (localB l = scanL true l) := by
    show _ = _
    unfold localB
    rw [decide_eq_true (by omega), scanL_all]
    rfl
  go_enter Tryd.func17, Tryd.ntmps17
  go_wp2
  go_loop [3] (fun k => ∃ i : Nat, k = .int .i64 i ∧ i ≤ l.length ∧ Hid (scanL (prevB l i) (l.drop i) = scanL true l) ∧ Hid (i = l.length → prevB l i = false)) (fun k => l.length - (intOf k).toNat)
  case atStart => exact ⟨0, rfl, Nat.zero_le _, rfl, fun e => by omega⟩
  case round =>
    obtain ⟨i, rfl, hi, HK, HZ⟩ := hrel
    by_cases hlt : i < l.length
    · have hlt' : (i : Int) < l.length := by omega
      obtain ⟨c, hc, hcs⟩ := at_str l i hlt
      have hst := scanL_drop l (prevB l i) i hlt
      have hpn := prevB_next l i hlt
      rw [hc] at hst hpn
      rw [HK.out] at hst
      clear hc HK HZ
      by_cases h46 : c = 46
      · subst h46
        rw [if_pos rfl] at hst
        have HS : Hid (prevB l i = false → i + 1 ≠ l.length → scanL (prevB l (i + 1)) (l.drop (i + 1)) = scanL true l ∧ (i + 1 = l.length → prevB l (i + 1) = false)) := by
          intro hp hn
          refine ⟨?_, fun e => absurd e hn⟩
          rw [hst, hp, hpn]
          rfl
        have HF : Hid (prevB l i = true ∨ i + 1 = l.length → localB l = false) := by
          intro h
          rw [HV.out, hst]
          rcases h with h | h
          · rw [h]
            rfl
          · rw [h, List.drop_length]
            simp [scanL]
        clear hst hpn HV
        by_cases h0 : i = 0
        · subst h0
          have HN := hide (HF.out (.inl rfl))
          clear HF HS
          go_wp2
          go_ret
          exact ⟨by rw [HN.out]; rfl, rfl⟩
        · have a0 : ¬ (i : Int) = 0 := by omega
          have a0' : ((i : Int) == 0) = false := by rw [beq_eq_false_iff_ne]; exact a0
          by_cases he : i + 1 = l.length
          · have HN := hide (HF.out (.inr he))
            have a1' : ((i : Int) == (l.length : Int) - 1) = true := by rw [beq_iff_eq]; omega
            clear HF HS he
            go_wp2
            go_ret
            exact ⟨by rw [HN.out]; rfl, rfl⟩
          · have a1 : ¬ (i : Int) = (l.length : Int) - 1 := by omega
            have a1' : ((i : Int) == (l.length : Int) - 1) = false := by rw [beq_eq_false_iff_ne]; exact a1
            obtain ⟨j, hj⟩ : ∃ j, i = j + 1 := ⟨i - 1, by omega⟩
            have hji : (i : Int) - 1 = (j : Int) := by omega
            have hjl : j < l.length := by omega
            have hjl' : (j : Int) < l.length := by omega
            obtain ⟨p, hp, hps⟩ := at_str l j hjl
            have hpv := prevB_next l j hjl
            rw [hp, ← hj] at hpv
            clear hp
            by_cases hp46 : p = 46
            · have HN := hide (HF.out (.inl (by rw [hpv, hp46]; rfl)))
              subst hp46
              clear HF HS hpv hj
              go_wp2
              go_ret
              exact ⟨by rw [HN.out]; rfl, rfl⟩
            · have HS2 := hide (HS.out (by rw [hpv]; simpa using hp46) he)
              obtain ⟨q1, q2, q3⟩ := ne_num (k := 46) 46 rfl hp46
              have hle : i + 1 ≤ l.length := by omega
              clear HF HS hpv hj hp46 he
              go_wp2
              go_round
              case rel => exact ⟨i + 1, by go_num, hle, HS2.out.1, HS2.out.2⟩
              case measure => simp [intOf]; omega
      · obtain ⟨q1, q2, q3⟩ := ne_num (k := 46) 46 rfl h46
        rw [if_neg h46] at hst
        have hpn' : prevB l (i + 1) = false := by rw [hpn]; simpa using h46
        have HS : Hid (atB c = true → scanL (prevB l (i + 1)) (l.drop (i + 1)) = scanL true l ∧ (i + 1 = l.length → prevB l (i + 1) = false)) := by
          intro h
          rw [hst, h, hpn']
          exact ⟨rfl, fun _ => rfl⟩
        have HF : Hid (atB c = false → localB l = false) := by
          intro h
          rw [HV.out, hst, h]
          rfl
        clear hst hpn hpn' HV h46
        have HA : Hid (atB c = (leB c || diB c || mkB c)) := by show _ = _; rw [atB, ld_or]
        have HL := hide (letter_any c)
        have HD := hide (digit_any c)
        have HM := hide (mark_any c)
        cases x1 : leB c with
        | true =>
          have HS2 := hide (HS.out (by rw [HA.out, x1]; rfl))
          rw [x1] at HL
          clear x1 HS HF HA HD HM
          go_wp2_with (first | (go_at_call 30; refine (HL.out _).mono ?_; rintro e w' ⟨rfl, rfl⟩))
          go_round
          case rel => exact ⟨i + 1, by go_num, by omega, HS2.out.1, HS2.out.2⟩
          case measure => simp [intOf]; omega
        | false =>
          cases x2 : diB c with
          | true =>
            have HS2 := hide (HS.out (by rw [HA.out, x1, x2]; rfl))
            rw [x1] at HL
            rw [x2] at HD
            clear x1 x2 HS HF HA HM
            go_wp2_with (first | (go_at_call 30; refine (HL.out _).mono ?_; rintro e w' ⟨rfl, rfl⟩) | (go_at_call 31; refine (HD.out _).mono ?_; rintro e w' ⟨rfl, rfl⟩))
            go_round
            case rel => exact ⟨i + 1, by go_num, by omega, HS2.out.1, HS2.out.2⟩
            case measure => simp [intOf]; omega
          | false =>
            cases x3 : mkB c with
            | true =>
              have HS2 := hide (HS.out (by rw [HA.out, x1, x2, x3]; rfl))
              rw [x1] at HL
              rw [x2] at HD
              rw [x3] at HM
              clear x1 x2 x3 HS HF HA
              go_wp2_with (first | (go_at_call 30; refine (HL.out _).mono ?_; rintro e w' ⟨rfl, rfl⟩) | (go_at_call 31; refine (HD.out _).mono ?_; rintro e w' ⟨rfl, rfl⟩) | (go_at_call 32; refine (HM.out _).mono ?_; rintro e w' ⟨rfl, rfl⟩))
              go_round
              case rel => exact ⟨i + 1, by go_num, by omega, HS2.out.1, HS2.out.2⟩
              case measure => simp [intOf]; omega
            | false =>
              have HN := hide (HF.out (by rw [HA.out, x1, x2, x3]; rfl))
              rw [x1] at HL
              rw [x2] at HD
              rw [x3] at HM
              clear x1 x2 x3 HS HF HA
              go_wp2_with (first | (go_at_call 30; refine (HL.out _).mono ?_; rintro e w' ⟨rfl, rfl⟩) | (go_at_call 31; refine (HD.out _).mono ?_; rintro e w' ⟨rfl, rfl⟩) | (go_at_call 32; refine (HM.out _).mono ?_; rintro e w' ⟨rfl, rfl⟩))
              go_ret
              exact ⟨by rw [HN.out]; rfl, rfl⟩
    · obtain rfl : i = l.length := by omega
      have HN : Hid (localB l = true) := by
        show _ = _
        rw [HV.out, ← HK.out, HZ.out rfl, List.drop_length]
        rfl
      clear HK HZ HV
      go_wp2
      go_ret
      exact ⟨by rw [HN.out]; rfl, rfl⟩
end Go.Proofs.YtppipfjnichikaaDoor
