/- The document's Domain. -/
import Derived.Test.YtppipfjnichikaaDoorPa7
namespace Go.Proofs.YtppipfjnichikaaDoor
open Go.RowKit Go.Shelf
/-- What stands ahead of place i. -/
def stB (s : List UInt8) : Nat → Nat
  | 0 => 0
  | j + 1 => match s[j]? with
    | some c => if c = 46 then 0 else if ldB c then 1 else 2
    | none => 2
theorem stB_next (l : List UInt8) (i : Nat) (h : i < l.length) : stB l (i + 1) = if l[i] = 46 then 0 else if ldB l[i] then 1 else 2 := by
  simp only [stB, List.getElem?_eq_getElem h]
theorem scanD_drop (l : List UInt8) (st i : Nat) (h : i < l.length) : scanD st (l.drop i) = if l[i] = 46 then st == 1 && scanD 0 (l.drop (i + 1)) else if ldB l[i] then scanD 1 (l.drop (i + 1)) else if l[i] = 45 then st != 0 && scanD 2 (l.drop (i + 1)) else false := by
  rw [List.drop_eq_getElem_cons h, scanD]
theorem hs012 (l : List UInt8) (i : Nat) : stB l i = 0 ∨ stB l i = 1 ∨ stB l i = 2 := by
  cases i with
  | zero => exact .inl rfl
  | succ j =>
    simp only [stB]
    split
    · split
      · exact .inl rfl
      · split
        · exact .inr (.inl rfl)
        · exact .inr (.inr rfl)
    · exact .inr (.inr rfl)
def DomI (l : List UInt8) (i : Nat) : Prop := scanD (stB l i) (l.drop i) = scanD 0 l ∧ (stB l i ≠ 1 → i < l.length) ∧ (stB l i = 2 → l[i]? ≠ some 46)
set_option maxRecDepth 20000 in
set_option maxHeartbeats 8000000 in
theorem rdom_any (l : List UInt8) (w : World) : Calls Tryd.prog 19 #[.string ⟨l.toArray⟩] w fun e w' => e = .returned (.bool (domB l)) ∧ w' = w := by
  by_cases h1 : l.length < 1
  · have HN : Hid (domB l = false) := by
      have : l = [] := List.eq_nil_of_length_eq_zero (by omega)
      rw [this]
      exact domB_nil
    have g1 : (l.length : Int) < 1 := by omega
    go_enter Tryd.func19, Tryd.ntmps19
    go_wp2
    go_ret
    exact ⟨by rw [HN.out]; rfl, rfl⟩
  have g1 : ¬ (l.length : Int) < 1 := by omega
  have g1' : decide ((l.length : Int) < 1) = false := decide_eq_false g1
  by_cases h2 : 100 < l.length
  · have HN : Hid (domB l = false) := by
      show _ = _
      unfold domB
      rw [decide_eq_false (by omega)]
      rfl
    have g2 : 100 < (l.length : Int) := by omega
    go_enter Tryd.func19, Tryd.ntmps19
    go_wp2
    go_ret
    exact ⟨by rw [HN.out]; rfl, rfl⟩
  have g2 : ¬ 100 < (l.length : Int) := by omega
  have g2' : decide (100 < (l.length : Int)) = false := decide_eq_false g2
  have HV : Hid (domB l = scanD 0 l) := by
    show _ = _
    unfold domB
    rw [decide_eq_true (by omega), scanD_all]
    rfl
  go_enter Tryd.func19, Tryd.ntmps19
  go_wp2
  go_loop [3] (fun k => ∃ i : Nat, k = .int .i64 i ∧ i ≤ l.length ∧ Hid (DomI l i)) (fun k => l.length - (intOf k).toNat)
  case atStart => exact ⟨0, rfl, Nat.zero_le _, ⟨rfl, fun _ => by omega, fun e => by cases e⟩⟩
  case round =>
    obtain ⟨i, rfl, hi, HK⟩ := hrel
    by_cases hlt : i < l.length
    · have hlt' : (i : Int) < l.length := by omega
      obtain ⟨c, hc, hcs⟩ := at_str l i hlt
      have hst := scanD_drop l (stB l i) i hlt
      have hpn := stB_next l i hlt
      have h2i : stB l i = 2 → c ≠ 46 := fun e e2 => HK.out.2.2 e (by rw [List.getElem?_eq_getElem hlt, hc, e2])
      rw [hc] at hst hpn
      rw [HK.out.1] at hst
      have hld := ld_or c
      clear hc HK
      have HL := hide (letter_any c)
      have HD := hide (digit_any c)
      cases x1 : leB c with
      | true =>
        have hx : ldB c = true := by rw [hld, x1]; rfl
        have h46 : c ≠ 46 := fun e => by rw [e] at hx; exact absurd hx (by decide)
        obtain ⟨p1, p2, p3⟩ := ne_num (k := 46) 46 rfl h46
        rw [if_neg h46, if_pos hx] at hst hpn
        have HS : Hid (DomI l (i + 1)) := ⟨by rw [hpn, hst], fun e => absurd hpn e, fun e => by rw [hpn] at e; cases e⟩
        have hle : i + 1 ≤ l.length := by omega
        rw [x1] at HL
        clear hst hpn h2i hld hx h46 HV x1 HD
        by_cases h0 : i = 0
        · subst h0
          go_wp2_with (first | (go_at_call 30; refine (HL.out _).mono ?_; rintro e w' ⟨rfl, rfl⟩) | (go_at_call 31; refine (HD.out _).mono ?_; rintro e w' ⟨rfl, rfl⟩))
          go_round
          case rel => exact ⟨1, by go_num, hle, HS⟩
          case measure => simp [intOf]; omega
        · have a0 : ¬ (i : Int) = 0 := by omega
          have a0' : ((i : Int) == 0) = false := by rw [beq_eq_false_iff_ne]; exact a0
          by_cases he : i + 1 = l.length
          · have a1' : ((i : Int) == (l.length : Int) - 1) = true := by rw [beq_iff_eq]; omega
            clear he
            go_wp2_with (first | (go_at_call 30; refine (HL.out _).mono ?_; rintro e w' ⟨rfl, rfl⟩) | (go_at_call 31; refine (HD.out _).mono ?_; rintro e w' ⟨rfl, rfl⟩))
            go_round
            case rel => exact ⟨i + 1, by go_num, hle, HS⟩
            case measure => simp [intOf]; omega
          · have a1 : ¬ (i : Int) = (l.length : Int) - 1 := by omega
            have a1' : ((i : Int) == (l.length : Int) - 1) = false := by rw [beq_eq_false_iff_ne]; exact a1
            obtain ⟨j, hj⟩ : ∃ j, i = j + 1 := ⟨i - 1, by omega⟩
            have hji : (i : Int) - 1 = (j : Int) := by omega
            have hjl : j < l.length := by omega
            have hjl' : (j : Int) < l.length := by omega
            have hnl : i + 1 < l.length := by omega
            have hnl' : (i : Int) + 1 < l.length := by omega
            obtain ⟨p, hp, hps⟩ := at_str l j hjl
            have hpv := stB_next l j hjl
            rw [hp, ← hj] at hpv
            clear hp
            by_cases hp46 : p = 46
            · have hs0 : stB l i = 0 := by rw [hpv, if_pos hp46]
              subst hp46
              clear hpv hj
              clear hs0 he
              go_wp2_with (first | (go_at_call 30; refine (HL.out _).mono ?_; rintro e w' ⟨rfl, rfl⟩) | (go_at_call 31; refine (HD.out _).mono ?_; rintro e w' ⟨rfl, rfl⟩))
              go_round
              case rel => exact ⟨i + 1, by go_num, hle, HS⟩
              case measure => simp [intOf]; omega
            · have hs0 : stB l i ≠ 0 := by rw [hpv, if_neg hp46]; split <;> simp
              obtain ⟨q1, q2, q3⟩ := ne_num (k := 46) 46 rfl hp46
              obtain ⟨n, hn, hns⟩ := at_str l (i + 1) hnl
              have hng : l[i + 1]? = some n := by rw [List.getElem?_eq_getElem hnl, hn]
              clear hp46 hpv hj hn
              by_cases hn46 : n = 46
              · subst hn46
                clear hs0 hng he
                go_wp2_with (first | (go_at_call 30; refine (HL.out _).mono ?_; rintro e w' ⟨rfl, rfl⟩) | (go_at_call 31; refine (HD.out _).mono ?_; rintro e w' ⟨rfl, rfl⟩))
                go_round
                case rel => exact ⟨i + 1, by go_num, hle, HS⟩
                case measure => simp [intOf]; omega
              · obtain ⟨r1, r2, r3⟩ := ne_num (k := 46) 46 rfl hn46
                clear hs0 hng hn46 he
                go_wp2_with (first | (go_at_call 30; refine (HL.out _).mono ?_; rintro e w' ⟨rfl, rfl⟩) | (go_at_call 31; refine (HD.out _).mono ?_; rintro e w' ⟨rfl, rfl⟩))
                go_round
                case rel => exact ⟨i + 1, by go_num, hle, HS⟩
                case measure => simp [intOf]; omega
      | false =>
        cases x2 : diB c with
        | true =>
          have hx : ldB c = true := by rw [hld, x1, x2]; rfl
          have h46 : c ≠ 46 := fun e => by rw [e] at hx; exact absurd hx (by decide)
          obtain ⟨p1, p2, p3⟩ := ne_num (k := 46) 46 rfl h46
          rw [if_neg h46, if_pos hx] at hst hpn
          have HS : Hid (DomI l (i + 1)) := ⟨by rw [hpn, hst], fun e => absurd hpn e, fun e => by rw [hpn] at e; cases e⟩
          have hle : i + 1 ≤ l.length := by omega
          rw [x1] at HL
          rw [x2] at HD
          clear hst hpn h2i hld hx h46 HV x1 x2
          by_cases h0 : i = 0
          · subst h0
            go_wp2_with (first | (go_at_call 30; refine (HL.out _).mono ?_; rintro e w' ⟨rfl, rfl⟩) | (go_at_call 31; refine (HD.out _).mono ?_; rintro e w' ⟨rfl, rfl⟩))
            go_round
            case rel => exact ⟨1, by go_num, hle, HS⟩
            case measure => simp [intOf]; omega
          · have a0 : ¬ (i : Int) = 0 := by omega
            have a0' : ((i : Int) == 0) = false := by rw [beq_eq_false_iff_ne]; exact a0
            by_cases he : i + 1 = l.length
            · have a1' : ((i : Int) == (l.length : Int) - 1) = true := by rw [beq_iff_eq]; omega
              clear he
              go_wp2_with (first | (go_at_call 30; refine (HL.out _).mono ?_; rintro e w' ⟨rfl, rfl⟩) | (go_at_call 31; refine (HD.out _).mono ?_; rintro e w' ⟨rfl, rfl⟩))
              go_round
              case rel => exact ⟨i + 1, by go_num, hle, HS⟩
              case measure => simp [intOf]; omega
            · have a1 : ¬ (i : Int) = (l.length : Int) - 1 := by omega
              have a1' : ((i : Int) == (l.length : Int) - 1) = false := by rw [beq_eq_false_iff_ne]; exact a1
              obtain ⟨j, hj⟩ : ∃ j, i = j + 1 := ⟨i - 1, by omega⟩
              have hji : (i : Int) - 1 = (j : Int) := by omega
              have hjl : j < l.length := by omega
              have hjl' : (j : Int) < l.length := by omega
              have hnl : i + 1 < l.length := by omega
              have hnl' : (i : Int) + 1 < l.length := by omega
              obtain ⟨p, hp, hps⟩ := at_str l j hjl
              have hpv := stB_next l j hjl
              rw [hp, ← hj] at hpv
              clear hp
              by_cases hp46 : p = 46
              · have hs0 : stB l i = 0 := by rw [hpv, if_pos hp46]
                subst hp46
                clear hpv hj
                clear hs0 he
                go_wp2_with (first | (go_at_call 30; refine (HL.out _).mono ?_; rintro e w' ⟨rfl, rfl⟩) | (go_at_call 31; refine (HD.out _).mono ?_; rintro e w' ⟨rfl, rfl⟩))
                go_round
                case rel => exact ⟨i + 1, by go_num, hle, HS⟩
                case measure => simp [intOf]; omega
              · have hs0 : stB l i ≠ 0 := by rw [hpv, if_neg hp46]; split <;> simp
                obtain ⟨q1, q2, q3⟩ := ne_num (k := 46) 46 rfl hp46
                obtain ⟨n, hn, hns⟩ := at_str l (i + 1) hnl
                have hng : l[i + 1]? = some n := by rw [List.getElem?_eq_getElem hnl, hn]
                clear hp46 hpv hj hn
                by_cases hn46 : n = 46
                · subst hn46
                  clear hs0 hng he
                  go_wp2_with (first | (go_at_call 30; refine (HL.out _).mono ?_; rintro e w' ⟨rfl, rfl⟩) | (go_at_call 31; refine (HD.out _).mono ?_; rintro e w' ⟨rfl, rfl⟩))
                  go_round
                  case rel => exact ⟨i + 1, by go_num, hle, HS⟩
                  case measure => simp [intOf]; omega
                · obtain ⟨r1, r2, r3⟩ := ne_num (k := 46) 46 rfl hn46
                  clear hs0 hng hn46 he
                  go_wp2_with (first | (go_at_call 30; refine (HL.out _).mono ?_; rintro e w' ⟨rfl, rfl⟩) | (go_at_call 31; refine (HD.out _).mono ?_; rintro e w' ⟨rfl, rfl⟩))
                  go_round
                  case rel => exact ⟨i + 1, by go_num, hle, HS⟩
                  case measure => simp [intOf]; omega
        | false =>
          have hx : ldB c = false := by rw [hld, x1, x2]; rfl
          rw [x1] at HL
          rw [x2] at HD
          clear x1 x2 hld
          by_cases h45 : c = 45
          · subst h45
            rw [if_neg (by decide), if_neg (by decide), if_pos rfl] at hst
            rw [if_neg (by decide), if_neg (by decide)] at hpn
            clear h2i hx
            by_cases h0 : i = 0
            · subst h0
              have HN : Hid (domB l = false) := by show _ = _; rw [HV.out, hst]; rfl
              clear hst hpn HV
              go_wp2_with (first | (go_at_call 30; refine (HL.out _).mono ?_; rintro e w' ⟨rfl, rfl⟩) | (go_at_call 31; refine (HD.out _).mono ?_; rintro e w' ⟨rfl, rfl⟩))
              go_ret
              exact ⟨by rw [HN.out]; rfl, rfl⟩
            · have a0 : ¬ (i : Int) = 0 := by omega
              have a0' : ((i : Int) == 0) = false := by rw [beq_eq_false_iff_ne]; exact a0
              by_cases he : i + 1 = l.length
              · have a1' : ((i : Int) == (l.length : Int) - 1) = true := by rw [beq_iff_eq]; omega
                have HN : Hid (domB l = false) := by show _ = _; rw [HV.out, hst, he, List.drop_length]; simp [scanD]
                clear hst hpn HV he
                go_wp2_with (first | (go_at_call 30; refine (HL.out _).mono ?_; rintro e w' ⟨rfl, rfl⟩) | (go_at_call 31; refine (HD.out _).mono ?_; rintro e w' ⟨rfl, rfl⟩))
                go_ret
                exact ⟨by rw [HN.out]; rfl, rfl⟩
              · have a1 : ¬ (i : Int) = (l.length : Int) - 1 := by omega
                have a1' : ((i : Int) == (l.length : Int) - 1) = false := by rw [beq_eq_false_iff_ne]; exact a1
                obtain ⟨j, hj⟩ : ∃ j, i = j + 1 := ⟨i - 1, by omega⟩
                have hji : (i : Int) - 1 = (j : Int) := by omega
                have hjl : j < l.length := by omega
                have hjl' : (j : Int) < l.length := by omega
                have hnl : i + 1 < l.length := by omega
                have hnl' : (i : Int) + 1 < l.length := by omega
                obtain ⟨p, hp, hps⟩ := at_str l j hjl
                have hpv := stB_next l j hjl
                rw [hp, ← hj] at hpv
                clear hp
                by_cases hp46 : p = 46
                · have hs0 : stB l i = 0 := by rw [hpv, if_pos hp46]
                  subst hp46
                  clear hpv hj
                  have HN : Hid (domB l = false) := by show _ = _; rw [HV.out, hst, hs0]; rfl
                  clear hst hpn HV he hs0
                  go_wp2_with (first | (go_at_call 30; refine (HL.out _).mono ?_; rintro e w' ⟨rfl, rfl⟩) | (go_at_call 31; refine (HD.out _).mono ?_; rintro e w' ⟨rfl, rfl⟩))
                  go_ret
                  exact ⟨by rw [HN.out]; rfl, rfl⟩
                · have hs0 : stB l i ≠ 0 := by rw [hpv, if_neg hp46]; split <;> simp
                  obtain ⟨q1, q2, q3⟩ := ne_num (k := 46) 46 rfl hp46
                  obtain ⟨n, hn, hns⟩ := at_str l (i + 1) hnl
                  have hng : l[i + 1]? = some n := by rw [List.getElem?_eq_getElem hnl, hn]
                  clear hp46 hpv hj hn
                  by_cases hn46 : n = 46
                  · subst hn46
                    have HN : Hid (domB l = false) := by
                      have hd := scanD_drop l 2 (i + 1) hnl
                      rw [if_pos (by rw [List.getElem?_eq_getElem hnl] at hng; exact Option.some.inj hng)] at hd
                      show _ = _
                      rw [HV.out, hst, hd]
                      simp
                    clear hst hpn HV he hs0 hng
                    go_wp2_with (first | (go_at_call 30; refine (HL.out _).mono ?_; rintro e w' ⟨rfl, rfl⟩) | (go_at_call 31; refine (HD.out _).mono ?_; rintro e w' ⟨rfl, rfl⟩))
                    go_ret
                    exact ⟨by rw [HN.out]; rfl, rfl⟩
                  · obtain ⟨r1, r2, r3⟩ := ne_num (k := 46) 46 rfl hn46
                    have HS : Hid (DomI l (i + 1)) := ⟨by rw [hpn, hst]; simp [hs0], fun _ => hnl, fun _ => by rw [hng]; simpa using hn46⟩
                    have hle : i + 1 ≤ l.length := by omega
                    clear hst hpn HV he hs0 hng hn46
                    go_wp2_with (first | (go_at_call 30; refine (HL.out _).mono ?_; rintro e w' ⟨rfl, rfl⟩) | (go_at_call 31; refine (HD.out _).mono ?_; rintro e w' ⟨rfl, rfl⟩))
                    go_round
                    case rel => exact ⟨i + 1, by go_num, hle, HS⟩
                    case measure => simp [intOf]; omega
          · obtain ⟨m1, m2, m3⟩ := ne_num (k := 45) 45 rfl h45
            by_cases h46 : c = 46
            · subst h46
              rw [if_pos rfl] at hst hpn
              clear h45 hx m1 m2 m3
              by_cases h0 : i = 0
              · subst h0
                have HN : Hid (domB l = false) := by show _ = _; rw [HV.out, hst]; rfl
                clear hst hpn HV h2i
                go_wp2_with (first | (go_at_call 30; refine (HL.out _).mono ?_; rintro e w' ⟨rfl, rfl⟩) | (go_at_call 31; refine (HD.out _).mono ?_; rintro e w' ⟨rfl, rfl⟩))
                go_ret
                exact ⟨by rw [HN.out]; rfl, rfl⟩
              · have a0 : ¬ (i : Int) = 0 := by omega
                have a0' : ((i : Int) == 0) = false := by rw [beq_eq_false_iff_ne]; exact a0
                by_cases he : i + 1 = l.length
                · have a1' : ((i : Int) == (l.length : Int) - 1) = true := by rw [beq_iff_eq]; omega
                  have HN : Hid (domB l = false) := by show _ = _; rw [HV.out, hst, he, List.drop_length]; simp [scanD]
                  clear hst hpn HV he h2i
                  go_wp2_with (first | (go_at_call 30; refine (HL.out _).mono ?_; rintro e w' ⟨rfl, rfl⟩) | (go_at_call 31; refine (HD.out _).mono ?_; rintro e w' ⟨rfl, rfl⟩))
                  go_ret
                  exact ⟨by rw [HN.out]; rfl, rfl⟩
                · have a1 : ¬ (i : Int) = (l.length : Int) - 1 := by omega
                  have a1' : ((i : Int) == (l.length : Int) - 1) = false := by rw [beq_eq_false_iff_ne]; exact a1
                  obtain ⟨j, hj⟩ : ∃ j, i = j + 1 := ⟨i - 1, by omega⟩
                  have hji : (i : Int) - 1 = (j : Int) := by omega
                  have hjl : j < l.length := by omega
                  have hjl' : (j : Int) < l.length := by omega
                  have hnl : i + 1 < l.length := by omega
                  have hnl' : (i : Int) + 1 < l.length := by omega
                  obtain ⟨p, hp, hps⟩ := at_str l j hjl
                  have hpv := stB_next l j hjl
                  rw [hp, ← hj] at hpv
                  clear hp
                  by_cases hp46 : p = 46
                  · have hs0 : stB l i = 0 := by rw [hpv, if_pos hp46]
                    subst hp46
                    clear hpv hj
                    have HN : Hid (domB l = false) := by show _ = _; rw [HV.out, hst, hs0]; rfl
                    clear hst hpn HV he hs0 h2i
                    go_wp2_with (first | (go_at_call 30; refine (HL.out _).mono ?_; rintro e w' ⟨rfl, rfl⟩) | (go_at_call 31; refine (HD.out _).mono ?_; rintro e w' ⟨rfl, rfl⟩))
                    go_ret
                    exact ⟨by rw [HN.out]; rfl, rfl⟩
                  · have hs0 : stB l i ≠ 0 := by rw [hpv, if_neg hp46]; split <;> simp
                    obtain ⟨q1, q2, q3⟩ := ne_num (k := 46) 46 rfl hp46
                    obtain ⟨n, hn, hns⟩ := at_str l (i + 1) hnl
                    have hng : l[i + 1]? = some n := by rw [List.getElem?_eq_getElem hnl, hn]
                    clear hp46 hpv hj hn
                    by_cases hn46 : n = 46
                    · subst hn46
                      have hs1 : stB l i = 1 := by have h3 := hs012 l i; rcases h3 with h3 | h3 | h3; exact absurd h3 hs0; exact h3; exact absurd rfl (h2i h3)
                      have HS : Hid (DomI l (i + 1)) := ⟨by rw [hpn, hst, hs1]; rfl, fun _ => hnl, fun e => by rw [hpn] at e; cases e⟩
                      have hle : i + 1 ≤ l.length := by omega
                      clear hst hpn HV he hs0 hng h2i hs1
                      go_wp2_with (first | (go_at_call 30; refine (HL.out _).mono ?_; rintro e w' ⟨rfl, rfl⟩) | (go_at_call 31; refine (HD.out _).mono ?_; rintro e w' ⟨rfl, rfl⟩))
                      go_round
                      case rel => exact ⟨i + 1, by go_num, hle, HS⟩
                      case measure => simp [intOf]; omega
                    · obtain ⟨r1, r2, r3⟩ := ne_num (k := 46) 46 rfl hn46
                      have hs1 : stB l i = 1 := by have h3 := hs012 l i; rcases h3 with h3 | h3 | h3; exact absurd h3 hs0; exact h3; exact absurd rfl (h2i h3)
                      have HS : Hid (DomI l (i + 1)) := ⟨by rw [hpn, hst, hs1]; rfl, fun _ => hnl, fun e => by rw [hpn] at e; cases e⟩
                      have hle : i + 1 ≤ l.length := by omega
                      clear hst hpn HV he hs0 hng h2i hs1 hn46
                      go_wp2_with (first | (go_at_call 30; refine (HL.out _).mono ?_; rintro e w' ⟨rfl, rfl⟩) | (go_at_call 31; refine (HD.out _).mono ?_; rintro e w' ⟨rfl, rfl⟩))
                      go_round
                      case rel => exact ⟨i + 1, by go_num, hle, HS⟩
                      case measure => simp [intOf]; omega
            · obtain ⟨n1, n2, n3⟩ := ne_num (k := 46) 46 rfl h46
              rw [if_neg h46, hx, if_neg (by simp), if_neg h45] at hst
              have HN : Hid (domB l = false) := by show _ = _; rw [HV.out, hst]
              clear hst hpn h2i hx h45 h46 HV
              go_wp2_with (first | (go_at_call 30; refine (HL.out _).mono ?_; rintro e w' ⟨rfl, rfl⟩) | (go_at_call 31; refine (HD.out _).mono ?_; rintro e w' ⟨rfl, rfl⟩))
              go_ret
              exact ⟨by rw [HN.out]; rfl, rfl⟩
    · obtain rfl : i = l.length := by omega
      have HN : Hid (domB l = true) := by
        have h3 := HK.out
        have h4 : stB l l.length = 1 := Classical.byContradiction fun e => Nat.lt_irrefl _ (h3.2.1 e)
        show _ = _
        rw [HV.out, ← h3.1, h4, List.drop_length]
        rfl
      clear HK HV
      go_wp2
      go_ret
      exact ⟨by rw [HN.out]; rfl, rfl⟩
end Go.Proofs.YtppipfjnichikaaDoor
