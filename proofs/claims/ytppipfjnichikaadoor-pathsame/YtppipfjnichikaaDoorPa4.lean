/- isAtom and isLabel of package path. -/
import Derived.Test.YtppipfjnichikaaDoorPa3
namespace Go.Proofs.YtppipfjnichikaaDoor
open Go.RowKit Go.Shelf
theorem at_str (l : List UInt8) (i : Nat) (hi : i < l.length) : ∃ c, l[i] = c ∧ ∀ h : i < (⟨l.toArray⟩ : ByteArray).size, (⟨l.toArray⟩ : ByteArray)[i]'h = c := ⟨_, rfl, fun _ => rfl⟩
theorem indexB_nonneg : ∀ (l : List UInt8) (c : UInt8), (l.contains c = true → 0 ≤ Lib.indexByte l c) ∧ (l.contains c = false → Lib.indexByte l c = -1)
  | l, c => by
    constructor
    · intro h
      obtain ⟨p, q, e, hp⟩ := split_at_byte l (b := c) (by simpa using h)
      rw [e, index_in q hp]
      omega
    · intro h
      exact index_out (by simpa using h)
theorem marks_calls (c : UInt8) (w : World) : Calls Tryd.prog 41 #[.string ⟨#[33, 35, 36, 37, 38, 39, 42, 43, 45, 47, 61, 63, 94, 95, 96, 123, 124, 125, 126]⟩, .int .u8 c.toNat] w fun e w' => (∃ x : Int, (mkB c = true → 0 ≤ x) ∧ (mkB c = false → x = -1) ∧ e = .returned (.int .i64 x)) ∧ w' = w := by
  refine (Tryd.strings_IndexByte ⟨#[33, 35, 36, 37, 38, 39, 42, 43, 45, 47, 61, 63, 94, 95, 96, 123, 124, 125, 126]⟩ c.toNat w).mono ?_
  rintro e w' ⟨rfl, rfl⟩
  have hc : ((c.toNat : Int)).toNat.toUInt8 = c := by simp
  have h := indexB_nonneg marksL c
  rw [hc]
  exact ⟨⟨_, h.1, h.2, rfl⟩, rfl⟩
theorem all_drop (l : List UInt8) (i : Nat) (h : i < l.length) : (l.drop i).all atB = (atB l[i] && (l.drop (i + 1)).all atB) := by
  rw [List.drop_eq_getElem_cons h, List.all_cons]
set_option maxRecDepth 20000 in
set_option maxHeartbeats 4000000 in
theorem isAtom_any (l : List UInt8) (w : World) (hs : l.length ≤ 1000000) : Calls Tryd.prog 29 #[.string ⟨l.toArray⟩] w fun e w' => e = .returned (.bool (atomB l)) ∧ w' = w := by
  go_enter Tryd.func29, Tryd.ntmps29
  go_wp2
  go_loop [6] (fun k => ∃ i : Nat, k = .int .i64 i ∧ i ≤ l.length ∧ Hid ((l.drop i).all atB = l.all atB)) (fun k => l.length - (intOf k).toNat)
  case atStart => exact ⟨0, rfl, Nat.zero_le _, rfl⟩
  case round =>
    obtain ⟨i, rfl, hi, HK⟩ := hrel
    by_cases hlt : i < l.length
    · have hlt' : (i : Int) < l.length := by omega
      obtain ⟨c, hc, hcs⟩ := at_str l i hlt
      have hst := all_drop l i hlt
      rw [hc] at hst
      clear hc
      have HL := hide (ld_any c)
      have HM := hide (marks_calls c)
      cases hld : ldB c with
      | true =>
        rw [hld] at HL
        have HS := hide (show (l.drop (i + 1)).all atB = l.all atB by rw [← HK.out, hst, atB, hld]; simp)
        clear hst hld HK HM
        go_wp2_with (first | (go_at_call 40; refine (HL.out _).mono ?_; rintro e w' ⟨rfl, rfl⟩))
        go_round
        case rel => exact ⟨i + 1, by go_num, by omega, HS⟩
        case measure => simp [intOf]; omega
      | false =>
        rw [hld] at HL
        cases hmk : mkB c with
        | true =>
          have HS := hide (show (l.drop (i + 1)).all atB = l.all atB by rw [← HK.out, hst, atB, hld, hmk]; simp)
          have HM2 : Hid (∀ w, Calls Tryd.prog 41 #[.string ⟨#[33, 35, 36, 37, 38, 39, 42, 43, 45, 47, 61, 63, 94, 95, 96, 123, 124, 125, 126]⟩, .int .u8 c.toNat] w fun e w' => (∃ x : Int, 0 ≤ x ∧ e = .returned (.int .i64 x)) ∧ w' = w) := fun w => (HM.out w).mono (by rintro e w' ⟨⟨x, h1, _, rfl⟩, rfl⟩; exact ⟨⟨x, h1 hmk, rfl⟩, rfl⟩)
          clear hst hld HK HM hmk
          go_wp2_with (first | (go_at_call 40; refine (HL.out _).mono ?_; rintro e w' ⟨rfl, rfl⟩) | (go_at_call 41; refine (HM2.out _).mono ?_; rintro e w' ⟨⟨x, hx, rfl⟩, rfl⟩))
          go_round
          case rel => exact ⟨i + 1, by go_num, by omega, HS⟩
          case measure => simp [intOf]; omega
        | false =>
          have HN := hide (show atomB l = false by unfold atomB; rw [← HK.out, hst, atB, hld, hmk]; simp)
          have HM2 : Hid (∀ w, Calls Tryd.prog 41 #[.string ⟨#[33, 35, 36, 37, 38, 39, 42, 43, 45, 47, 61, 63, 94, 95, 96, 123, 124, 125, 126]⟩, .int .u8 c.toNat] w fun e w' => (e = .returned (.int .i64 (-1))) ∧ w' = w) := fun w => (HM.out w).mono (by rintro e w' ⟨⟨x, _, h1, rfl⟩, rfl⟩; exact ⟨by rw [h1 hmk], rfl⟩)
          clear hst hld HK HM hmk
          go_wp2_with (first | (go_at_call 40; refine (HL.out _).mono ?_; rintro e w' ⟨rfl, rfl⟩) | (go_at_call 41; refine (HM2.out _).mono ?_; rintro e w' ⟨rfl, rfl⟩))
          go_ret
          exact ⟨by rw [HN.out]; rfl, rfl⟩
    · obtain rfl : i = l.length := by omega
      have hall := HK.out
      rw [List.drop_length, List.all_nil] at hall
      have HB : Hid (atomB l = !l.isEmpty) := by
        show atomB l = _
        unfold atomB
        rw [← hall]
        rfl
      clear hall HK
      cases l with
      | nil =>
        go_wp2
        go_ret
        exact ⟨by rw [HB.out]; rfl, rfl⟩
      | cons c t =>
        go_wp2
        go_ret
        exact ⟨by rw [HB.out]; rfl, rfl⟩
theorem labQ_drop (l : List UInt8) (st i : Nat) (h : i < l.length) : labQ st (l.drop i) = if ldB l[i] then labQ 1 (l.drop (i + 1)) else if l[i] = 45 then st != 0 && labQ 2 (l.drop (i + 1)) else false := by
  rw [List.drop_eq_getElem_cons h, labQ]
set_option maxRecDepth 20000 in
set_option maxHeartbeats 4000000 in
theorem isLabel_any (l : List UInt8) (w : World) (hs : l.length ≤ 1000000) : Calls Tryd.prog 33 #[.string ⟨l.toArray⟩] w fun e w' => e = .returned (.bool (labelB l)) ∧ w' = w := by
  go_enter Tryd.func33, Tryd.ntmps33
  go_wp2
  go_loop [7] (fun k => ∃ i st : Nat, k = .int .i64 i ∧ i ≤ l.length ∧ Hid (labQ st (l.drop i) = labelB l) ∧ Hid (st = 0 ↔ i = 0) ∧ Hid (i = l.length → st = 1 ∨ i = 0)) (fun k => l.length - (intOf k).toNat)
  case atStart => exact ⟨0, 0, rfl, Nat.zero_le _, rfl, ⟨fun _ => rfl, fun _ => rfl⟩, fun _ => .inr rfl⟩
  case round =>
    obtain ⟨i, st, rfl, hi, HK, HZ, HL1⟩ := hrel
    by_cases hlt : i < l.length
    · have hlt' : (i : Int) < l.length := by omega
      obtain ⟨c, hc, hcs⟩ := at_str l i hlt
      have hst := labQ_drop l st i hlt
      rw [hc, HK.out] at hst
      clear hc HK HL1
      have HL := hide (ld_any c)
      cases hld : ldB c with
      | true =>
        rw [hld] at HL hst
        have HS := hide (show labQ 1 (l.drop (i + 1)) = labelB l by rw [hst]; simp)
        clear hst hld HZ
        by_cases h0 : i = 0
        · subst h0
          go_wp2_with (first | (go_at_call 40; refine (HL.out _).mono ?_; rintro e w' ⟨rfl, rfl⟩))
          go_round
          case rel => exact ⟨1, 1, by go_num, by omega, HS, by show _ ↔ _; simp, fun _ => .inl rfl⟩
          case measure => simp [intOf]; omega
        · have g0 : (0 : Int) < i := by omega
          go_wp2_with (first | (go_at_call 40; refine (HL.out _).mono ?_; rintro e w' ⟨rfl, rfl⟩))
          go_round
          case rel => exact ⟨i + 1, 1, by go_num, by omega, HS, by show _ ↔ _; simp, fun _ => .inl rfl⟩
          case measure => simp [intOf]; omega
      | false =>
        rw [hld] at HL hst
        simp only [Bool.false_eq_true, if_false] at hst
        clear hld
        by_cases h0 : i = 0
        · have HN := hide (show labelB l = false by
            have h1 := HZ.out.2 h0
            rw [hst, h1]
            simp)
          subst h0
          clear hst HZ
          go_wp2_with (first | (go_at_call 40; refine (HL.out _).mono ?_; rintro e w' ⟨rfl, rfl⟩))
          go_ret
          exact ⟨by rw [HN.out]; rfl, rfl⟩
        · have g0 : (0 : Int) < i := by omega
          by_cases h1 : i = l.length - 1
          · have HN := hide (show labelB l = false by
              rw [hst, show i + 1 = l.length by omega, List.drop_length]
              simp [labQ])
            have g1 : ¬ (i : Int) < (l.length : Int) - 1 := by omega
            have g1' : decide ((i : Int) < (l.length : Int) - 1) = false := decide_eq_false g1
            clear hst HZ h1
            go_wp2_with (first | (go_at_call 40; refine (HL.out _).mono ?_; rintro e w' ⟨rfl, rfl⟩))
            go_ret
            exact ⟨by rw [HN.out]; rfl, rfl⟩
          · have g1 : (i : Int) < (l.length : Int) - 1 := by omega
            have g1' : decide ((i : Int) < (l.length : Int) - 1) = true := decide_eq_true g1
            by_cases h45 : c = 45
            · have HS := hide (show labQ 2 (l.drop (i + 1)) = labelB l by
                have h2 : st ≠ 0 := fun e => h0 (HZ.out.1 e)
                rw [hst, if_pos h45]
                simp [h2])
              subst h45
              clear hst HZ
              go_wp2_with (first | (go_at_call 40; refine (HL.out _).mono ?_; rintro e w' ⟨rfl, rfl⟩))
              go_round
              case rel => exact ⟨i + 1, 2, by go_num, by omega, HS, by show _ ↔ _; simp, fun e => by omega⟩
              case measure => simp [intOf]; omega
            · have HN := hide (show labelB l = false by rw [hst, if_neg h45])
              have hcc : ((c.toNat : Int) == 45) = false := by
                rw [beq_eq_false_iff_ne]
                intro e
                exact h45 (UInt8.toNat_inj.1 (by show c.toNat = 45; omega))
              clear hst HZ h45
              go_wp2_with (first | (go_at_call 40; refine (HL.out _).mono ?_; rintro e w' ⟨rfl, rfl⟩))
              go_ret
              exact ⟨by rw [HN.out]; rfl, rfl⟩
    · obtain rfl : i = l.length := by omega
      have HB : Hid (labelB l = !l.isEmpty) := by
        show labelB l = _
        rw [← HK.out, List.drop_length]
        rcases HL1.out rfl with h | h
        · have h0 : l.length ≠ 0 := fun e => by have := HZ.out.2 e; omega
          have : l ≠ [] := fun e => h0 (by rw [e]; rfl)
          rw [h]
          cases l with
          | nil => exact absurd rfl this
          | cons a b => rfl
        · rw [HZ.out.2 h]
          have : l = [] := List.eq_nil_of_length_eq_zero h
          rw [this]
          rfl
      clear HK HZ HL1
      cases l with
      | nil =>
        go_wp2
        go_ret
        exact ⟨by rw [HB.out]; rfl, rfl⟩
      | cons c t =>
        go_wp2
        go_ret
        exact ⟨by rw [HB.out]; rfl, rfl⟩
end Go.Proofs.YtppipfjnichikaaDoor
