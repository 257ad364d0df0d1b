/- QuoteLines, QuoteTwice: the walks. -/
import Derived.Test.YtbelaalpigiaeaaDoorQ10
namespace Go.Proofs.YtbelaalpigiaeaaDoor
open Go.RowKit
theorem marks_zeroAt {s : List UInt8} {m : Int} (hs : s.length ≤ 1000000) (hm : marksN s = m) (w : World) :
    Calls Tryd.prog 9 #[.string ⟨s.toArray⟩, .int .i64 0] w fun e w' => e = .returned (.int .i64 m) ∧ w' = w := by
  have := marks_any s 0 w (Nat.zero_le _) hs
  rw [List.drop_zero, hm] at this
  exact this
set_option maxRecDepth 8000 in
set_option maxHeartbeats 1000000 in
theorem lines_walk (s : List UInt8) (w : World) (hs : s.length ≤ maxLen) : Calls Tryd.prog 3 #[.string ⟨s.toArray⟩] w fun e w' => e = .returned (.bool true) ∧ Below w.heap.size w w' := by
  unfold maxLen at hs
  by_cases hl : 5000 < s.length
  · go_enter Tryd.func3, Tryd.ntmps3
    go_wp2_with (first
      | (go_at_call 8; refine (alive_yes _).mono ?_; rintro e w1 ⟨rfl, hb1⟩; replace hb1 := hide hb1))
    go_ret
    exact ⟨rfl, hb1.out⟩
  · obtain ⟨m, hm⟩ : ∃ m, marksN s = m := ⟨_, rfl⟩
    have HM := hide (marks_zeroAt (by omega) hm)
    have HL := hide (looks_any s)
    have HQ := hide (fun w => quote_any s w (by omega))
    have HU := hide (fun w => unquote_any s w (by omega))
    have hz := @marks_zero s
    have hp := @marks_pos s
    have hn := @marks_nonneg s
    rw [hm] at hz hp hn
    clear hm
    have hcat := cat_lit [62] s
    by_cases h0 : 0 < m
    · have hq := hp.1 h0
      have hnn := nm_quo hq
      have hs0 : sepB s = false := by
        cases h : sepB s with
        | false => rfl
        | true => rw [sep_not_quo h] at hq; cases hq
      have e1 := ext_drop s 1
      rw [hs0, hq] at HL
      unfold quoteL at HQ
      unfold unquoteL at HU
      rw [hnn] at HQ
      rw [hq] at HU
      have hpos : 1 ≤ s.length := by
        obtain ⟨r, rfl, _⟩ := quo_form hq
        simp
      have hm0 : (m == 0) = false := beq_eq_false_iff_ne.2 (by omega)
      clear hq hnn hs0 hz hp hn
      simp only [if_true] at HQ HU
      go_enter Tryd.func3, Tryd.ntmps3
      go_wp2_with (first
        | (go_at_call 8; refine (alive_yes _).mono ?_; rintro e w1 ⟨rfl, hb1⟩; replace hb1 := hide hb1)
        | (go_at_call 9; refine (HM.out _).mono ?_; rintro e w' ⟨rfl, rfl⟩)
        | (go_at_call 10; refine (HL.out _).mono ?_; rintro e w' ⟨rfl, rfl⟩)
        | (go_at_call 11; refine (HQ.out _).mono ?_; rintro e w' ⟨rfl, rfl⟩)
        | (go_at_call 12; refine (HU.out _).mono ?_; rintro e w' ⟨rfl, rfl⟩))
      go_ret
      exact ⟨by simp, hb1.out⟩
    · have hq : quoB s = false := by
        cases h : quoB s with
        | false => rfl
        | true => exact absurd (hp.2 h) h0
      unfold quoteL at HQ
      unfold unquoteL at HU
      rw [hq] at HU HL
      by_cases h1 : m = 0
      · have hs0 := hz.1 h1
        rw [nm_sep hs0] at HQ
        rw [hs0] at HL
        subst h1
        clear hq hs0 hz hp hn
        simp only [if_true, Bool.false_eq_true, if_false] at HQ HU
        go_enter Tryd.func3, Tryd.ntmps3
        go_wp2_with (first
          | (go_at_call 8; refine (alive_yes _).mono ?_; rintro e w1 ⟨rfl, hb1⟩; replace hb1 := hide hb1)
          | (go_at_call 9; refine (HM.out _).mono ?_; rintro e w' ⟨rfl, rfl⟩)
          | (go_at_call 10; refine (HL.out _).mono ?_; rintro e w' ⟨rfl, rfl⟩)
          | (go_at_call 11; refine (HQ.out _).mono ?_; rintro e w' ⟨rfl, rfl⟩)
          | (go_at_call 12; refine (HU.out _).mono ?_; rintro e w' ⟨rfl, rfl⟩))
        go_ret
        exact ⟨by simp, hb1.out⟩
      · have hs0 : sepB s = false := by
          cases h : sepB s with
          | false => rfl
          | true => exact absurd (hz.2 h) h1
        rw [nm_or, hs0, hq] at HQ
        rw [hs0] at HL
        have hm0 : (m == 0) = false := beq_eq_false_iff_ne.2 h1
        have hml : m < 0 := by omega
        clear hq hs0 hz hp hn h1 h0
        simp only [Bool.or_false, Bool.false_eq_true, if_false] at HQ HU
        go_enter Tryd.func3, Tryd.ntmps3
        go_wp2_with (first
          | (go_at_call 8; refine (alive_yes _).mono ?_; rintro e w1 ⟨rfl, hb1⟩; replace hb1 := hide hb1)
          | (go_at_call 9; refine (HM.out _).mono ?_; rintro e w' ⟨rfl, rfl⟩)
          | (go_at_call 10; refine (HL.out _).mono ?_; rintro e w' ⟨rfl, rfl⟩)
          | (go_at_call 11; refine (HQ.out _).mono ?_; rintro e w' ⟨rfl, rfl⟩)
          | (go_at_call 12; refine (HU.out _).mono ?_; rintro e w' ⟨rfl, rfl⟩))
        go_ret
        exact ⟨by simp; omega, hb1.out⟩
/-- Quoted so many times. -/
def qN : Nat → List UInt8 → List UInt8
  | 0, s => s
  | k + 1, s => quoteL (qN k s)
theorem qN_nm (s : List UInt8) : ∀ k, nm (qN k s) = nm s
  | 0 => rfl
  | k + 1 => by
    show nm (quoteL (qN k s)) = _
    rw [quote_nm, qN_nm s k]
theorem qN_len (s : List UInt8) : ∀ k, (qN k s).length ≤ s.length + k
  | 0 => Nat.le_refl _
  | k + 1 => by
    have := qN_len s k
    have h2 := quote_len (qN k s)
    show (quoteL (qN k s)).length ≤ _
    split at h2 <;> omega
theorem qN_back (s : List UInt8) (k : Nat) : unquoteL (qN (k + 1) s) = qN k s := unquote_quote _
theorem u64_nonneg (t : Int) : 0 ≤ IntKind.u64.wrap t := by
  simp only [IntKind.wrap]
  exact Int.emod_nonneg _ (by decide)
theorem rem20 (t : Int) : ∃ n : Nat, n < 20 ∧ wrap64 ((IntKind.u64.wrap t).tmod 20) = (n : Int) := by
  have h0 := u64_nonneg t
  generalize IntKind.u64.wrap t = z at h0
  rw [Int.tmod_eq_emod_of_nonneg h0]
  refine ⟨(z % 20).toNat, by omega, ?_⟩
  unfold wrap64
  omega
set_option maxRecDepth 8000 in
set_option maxHeartbeats 1000000 in
theorem twice_walk (s : List UInt8) (t : Int) (w : World) (hs : s.length ≤ maxLen) : Calls Tryd.prog 7 #[.string ⟨s.toArray⟩, .int .i64 t] w fun e w' => e = .returned (.bool true) ∧ Below w.heap.size w w' := by
  unfold maxLen at hs
  by_cases hl : 2000 < s.length
  · go_enter Tryd.func7, Tryd.ntmps7
    go_wp2_with (first
      | (go_at_call 8; refine (alive_yes _).mono ?_; rintro e w1 ⟨rfl, hb1⟩; replace hb1 := hide hb1))
    go_ret
    exact ⟨rfl, hb1.out⟩
  · have hl' : ¬ (2000 : Int) < s.length := by omega
    have HLk := hide (looks_any s)
    have HQ0 := hide (fun w => quote_any s w (by omega))
    go_enter Tryd.func7, Tryd.ntmps7
    go_wp2_with (first
      | (go_at_call 8; refine (alive_yes _).mono ?_; rintro e w1 ⟨rfl, hb1⟩; replace hb1 := hide hb1))
    obtain ⟨n, hn20, hn⟩ := rem20 t
    rw [hn]
    generalize (IntKind.u64.wrap t).tmod 20 = z at hn
    clear hn
    go_loop [5, 19] (fun v i => ∃ k : Nat, k ≤ n ∧ i = .int .i64 k ∧ v = .string ⟨(qN k s).toArray⟩) (fun _ i => n - (intOf i).toNat)
    case atStart => exact ⟨0, Nat.zero_le _, rfl, rfl⟩
    case round =>
      obtain ⟨k, hk, rfl, rfl⟩ := hrel
      have hql := qN_len s k
      by_cases hlt : k < n
      · have HQ := hide (fun w => quote_any (qN k s) w (by omega))
        have HX : Hid (quoteL (qN k s) = qN (k + 1) s) := rfl
        generalize quoteL (qN k s) = y at HQ HX
        go_wp2_with (first
          | (go_at_call 11; refine (HQ.out _).mono ?_; rintro e w' ⟨rfl, rfl⟩))
        go_round
        case rel => exact ⟨k + 1, by omega, by go_num, by rw [HX.out]⟩
        case measure => simp [intOf]; omega
      · obtain rfl : k = n := by omega
        go_wp2
        go_loop [5, 25] (fun v i => ∃ j : Nat, j ≤ k ∧ i = .int .i64 j ∧ v = .string ⟨(qN (k - j) s).toArray⟩) (fun _ i => k - (intOf i).toNat)
        case atStart => exact ⟨0, Nat.zero_le _, rfl, rfl⟩
        case round =>
          obtain ⟨j, hj, rfl, rfl⟩ := hrel
          by_cases hlt2 : j < k
          · obtain ⟨d, hd⟩ : ∃ d, k - j = d + 1 := ⟨k - j - 1, by omega⟩
            have hql2 := qN_len s (d + 1)
            have HU := hide (fun w => unquote_any (qN (d + 1) s) w (by omega))
            rw [qN_back] at HU
            rw [hd]
            have HD : Hid (k - (j + 1) = d) := by show _ = _; omega
            clear hd
            generalize qN (d + 1) s = y at HU
            go_wp2_with (first
              | (go_at_call 12; refine (HU.out _).mono ?_; rintro e w' ⟨rfl, rfl⟩))
            go_round
            case rel => exact ⟨j + 1, by omega, by go_num, by rw [HD.out]⟩
            case measure => simp [intOf]; omega
          · have hjk : j = k := by omega
            have hz : k - j = 0 := by omega
            rw [hz]
            show Code.wp _ _ _ _ _
            have hq0 : qN 0 s = s := rfl
            rw [hq0]
            clear hq0 hz
            cases hs0 : sepB s with
            | true =>
              rw [hs0] at HLk
              clear hs0
              go_wp2_with (first
                | (go_at_call 10; refine (HLk.out _).mono ?_; rintro e w' ⟨rfl, rfl⟩))
              go_ret
              exact ⟨by simp, hb1.out⟩
            | false =>
              cases hq : quoB s with
              | true =>
                rw [hs0, hq] at HLk
                clear hs0 hq
                go_wp2_with (first
                  | (go_at_call 10; refine (HLk.out _).mono ?_; rintro e w' ⟨rfl, rfl⟩))
                go_ret
                exact ⟨by simp, hb1.out⟩
              | false =>
                unfold quoteL at HQ0
                rw [nm_or, hs0, hq] at HQ0
                rw [hs0, hq] at HLk
                simp only [Bool.or_false, Bool.false_eq_true, if_false] at HQ0
                clear hs0 hq
                go_wp2_with (first
                  | (go_at_call 10; refine (HLk.out _).mono ?_; rintro e w' ⟨rfl, rfl⟩)
                  | (go_at_call 11; refine (HQ0.out _).mono ?_; rintro e w' ⟨rfl, rfl⟩))
                go_ret
                exact ⟨by simp, hb1.out⟩
end Go.Proofs.YtbelaalpigiaeaaDoor
