/- The document's plain, Pattern and Name. -/
import Derived.Test.YtelpjiiladbigaaDoorBn2
import Derived.Test.YtelpjiiladbigaaDoorBt2
set_option linter.unusedSimpArgs false
set_option linter.unusedVariables false
namespace Go.Proofs.YtelpjiiladbigaaDoor
open Go.RowKit Go.Shelf
set_option maxRecDepth 20000 in
set_option maxHeartbeats 2000000 in
theorem rplain_any (c : UInt8) (p : Bool) (w : World) : Calls Tryd.prog 28 #[.int .u8 (c.toNat : Nat), .bool p] w fun e w' => e = .returned (.bool (plnB p c)) ∧ w' = w := by
  have h255 := c.toNat_lt
  have lit : ∀ n : Nat, n < 256 → c.toNat ≠ n → ((c.toNat : Int) == (n : Int)) = false := fun n _ h => beq_eq_false_iff_ne.2 (by omega)
  by_cases h1 : c.toNat < 33
  · have b1 : (c.toNat : Int) < 33 := by omega
    have HV : Hid (plnB p c = false) := by show _ = _; unfold plnB; rw [decide_eq_false (by omega)]; rfl
    go_enter Tryd.func28, Tryd.ntmps28
    go_wp2
    go_ret
    exact ⟨by rw [HV.out]; rfl, rfl⟩
  have b1 : ¬ (c.toNat : Int) < 33 := by omega
  by_cases h2 : 126 < c.toNat
  · have b2 : (126 : Int) < c.toNat := by omega
    have HV : Hid (plnB p c = false) := by show _ = _; unfold plnB; rw [decide_eq_false (by omega)]; rfl
    go_enter Tryd.func28, Tryd.ntmps28
    go_wp2
    go_ret
    exact ⟨by rw [HV.out]; rfl, rfl⟩
  have b2 : ¬ (126 : Int) < c.toNat := by omega
  have HD : Hid (decide (33 ≤ c.toNat ∧ c.toNat ≤ 126) = true) := by show _ = _; exact decide_eq_true (by omega)
  by_cases k : c = 40 ∨ c = 41 ∨ c = 123 ∨ c = 34 ∨ c = 92
  · have HV : Hid (plnB p c = false) := by
      show _ = _
      unfold plnB
      rcases k with rfl | rfl | rfl | rfl | rfl <;> rfl
    clear h1 h2 b1 b2 HD lit h255
    rcases k with rfl | rfl | rfl | rfl | rfl
    all_goals
      go_enter Tryd.func28, Tryd.ntmps28
      go_wp2
      go_ret
      exact ⟨by rw [HV.out]; rfl, rfl⟩
  · obtain ⟨k1, k2, k3, k4, k5⟩ : c ≠ 40 ∧ c ≠ 41 ∧ c ≠ 123 ∧ c ≠ 34 ∧ c ≠ 92 := ⟨fun e => k (.inl e), fun e => k (.inr (.inl e)), fun e => k (.inr (.inr (.inl e))), fun e => k (.inr (.inr (.inr (.inl e)))), fun e => k (.inr (.inr (.inr (.inr e))))⟩
    have c1 : ((c.toNat : Int) == 40) = false := beq_eq_false_iff_ne.2 (u8_lit c 40 (by omega) k1)
    have c2 : ((c.toNat : Int) == 41) = false := beq_eq_false_iff_ne.2 (u8_lit c 41 (by omega) k2)
    have c3 : ((c.toNat : Int) == 123) = false := beq_eq_false_iff_ne.2 (u8_lit c 123 (by omega) k3)
    have c4 : ((c.toNat : Int) == 34) = false := beq_eq_false_iff_ne.2 (u8_lit c 34 (by omega) k4)
    have c5 : ((c.toNat : Int) == 92) = false := beq_eq_false_iff_ne.2 (u8_lit c 92 (by omega) k5)
    have HQ : Hid (plnB p c = (p || !starB c)) := by
      show _ = _
      unfold plnB
      rw [HD.out, beq_eq_false_iff_ne.2 k1, beq_eq_false_iff_ne.2 k2, beq_eq_false_iff_ne.2 k3, beq_eq_false_iff_ne.2 k4, beq_eq_false_iff_ne.2 k5]
      simp
    by_cases m : c = 37 ∨ c = 42
    · have HV : Hid (plnB p c = p) := by
        show _ = _
        rw [HQ.out]
        rcases m with rfl | rfl <;> simp [starB]
      clear h1 h2 b1 b2 HD lit h255 k k1 k2 k3 k4 k5 c1 c2 c3 c4 c5 HQ
      rcases m with rfl | rfl
      all_goals
        go_enter Tryd.func28, Tryd.ntmps28
        go_wp2
        go_ret
        exact ⟨by rw [HV.out]; rfl, rfl⟩
    · obtain ⟨m1, m2⟩ : c ≠ 37 ∧ c ≠ 42 := ⟨fun e => m (.inl e), fun e => m (.inr e)⟩
      have d1 : ((c.toNat : Int) == 37) = false := beq_eq_false_iff_ne.2 (u8_lit c 37 (by omega) m1)
      have d2 : ((c.toNat : Int) == 42) = false := beq_eq_false_iff_ne.2 (u8_lit c 42 (by omega) m2)
      have HV : Hid (plnB p c = true) := by
        show _ = _
        rw [HQ.out]
        simp [starB, m1, m2]
      clear k m k1 k2 k3 k4 k5 m1 m2 HQ HD lit
      go_enter Tryd.func28, Tryd.ntmps28
      go_wp2
      go_ret
      exact ⟨by rw [HV.out]; rfl, rfl⟩
set_option maxRecDepth 20000 in
set_option maxHeartbeats 2000000 in
theorem rpattern_any (s : List UInt8) (w : World) (hs : s.length ≤ 1000000) : Calls Tryd.prog 14 #[.string ⟨s.toArray⟩] w fun e w' => e = .returned (.bool (patB s)) ∧ w' = w := by
  have hsz := size_lit s
  have HP := hide (fun c w => rplain_any c true w)
  go_enter Tryd.func14, Tryd.ntmps14
  go_wp2
  go_loopw [3] (fun v3 wr => ∃ i : Nat, v3 = .int .i64 i ∧ i ≤ s.length ∧ Hid ((s.take i).all (plnB true) = true) ∧ w = wr) (fun v3 _ => s.length - (intOf v3).toNat)
  case atStart => exact ⟨0, rfl, Nat.zero_le _, rfl, rfl⟩
  case round =>
    obtain ⟨i, rfl, hi, Ha, rfl⟩ := hrel
    by_cases hlt : i < s.length
    · have hlt' : (i : Int) < s.length := by omega
      obtain ⟨d, hd, hat⟩ : ∃ c, s[i] = c ∧ ∀ h : i < (⟨s.toArray⟩ : ByteArray).size, (⟨s.toArray⟩ : ByteArray)[i]'h = c := ⟨_, rfl, fun _ => rfl⟩
      have HPd := hide (HP.out d)
      cases hp : plnB true d with
      | false =>
        rw [hp] at HPd
        have HV : Hid (patB s = false) := by
          show _ = _
          unfold patB
          have : s.all (plnB true) = false := by
            rw [Bool.eq_false_iff]
            intro h
            have := List.all_eq_true.1 h s[i] (List.getElem_mem hlt)
            rw [hd, hp] at this
            cases this
          rw [this]
          rfl
        clear hp hd
        go_wp2_with (go_at_call 28; refine (HPd.out _).mono ?_; rintro e w' ⟨rfl, hw'⟩; subst hw')
        go_ret
        exact ⟨by rw [HV.out]; rfl, rfl⟩
      | true =>
        rw [hp] at HPd
        have HN : Hid ((s.take (i + 1)).all (plnB true) = true) := by
          show _ = _
          rw [List.take_succ_eq_append_getElem hlt, List.all_append, Ha.out, hd]
          simp [hp]
        clear hp hd
        go_wp2_with (go_at_call 28; refine (HPd.out _).mono ?_; rintro e w' ⟨rfl, hw'⟩; subst hw')
        go_roundw
        case rel => exact ⟨i + 1, by go_num, by omega, HN.out, trivial⟩
        case measure => simp [intOf] <;> omega
    · obtain rfl : i = s.length := by omega
      have HV : Hid (patB s = decide (s.length ≤ 100)) := by
        show _ = _
        have := Ha.out
        rw [List.take_length] at this
        unfold patB
        rw [this, Bool.true_and]
      go_wp2
      go_ret
      exact ⟨by rw [HV.out]; simp; omega, rfl⟩
set_option maxRecDepth 20000 in
set_option maxHeartbeats 4000000 in
theorem rname_any (s : List UInt8) (w : World) (hs : s.length ≤ 1000000) : Calls Tryd.prog 11 #[.string ⟨s.toArray⟩] w fun e w' => e = movV (boxO s) ∧ Below w.heap.size w w' := by
  have hsz := size_lit s
  have HNo : Hid (boxB s = false → movV (boxO s) = .returned (.tuple #[.string ⟨#[]⟩, .bool false])) := fun h => by
    unfold boxO
    rw [h]
    rfl
  have HYes : Hid (boxB s = true → movV (boxO s) = .returned (.tuple #[.string ⟨(if s.map lowB = inboxL then inboxU else s).toArray⟩, .bool true])) := fun h => by
    unfold boxO
    rw [h]
    rfl
  by_cases h1 : s.length < 1
  · have h1' : (s.length : Int) < 1 := by omega
    have HV := hide (HNo.out (box_short (.inl h1)))
    go_enter Tryd.func11, Tryd.ntmps11
    go_wp2
    go_ret2
    exact ⟨by rw [HV.out]; rfl, Below.refl _ _⟩
  have h1' : ¬ (s.length : Int) < 1 := by omega
  by_cases h2 : 60 < s.length
  · have h2' : (60 : Int) < s.length := by omega
    have HV := hide (HNo.out (box_short (.inr h2)))
    go_enter Tryd.func11, Tryd.ntmps11
    go_wp2
    go_ret2
    exact ⟨by rw [HV.out]; rfl, Below.refl _ _⟩
  have h2' : ¬ (60 : Int) < s.length := by omega
  obtain ⟨L, HL⟩ : ∃ L, Hid (s.length = L + 1) := ⟨s.length - 1, by show _ = _; omega⟩
  have hL1 : (s.length : Int) - 1 = L := by have := HL.out; omega
  have hLs : L < s.length := by have := HL.out; omega
  have hLs' : (L : Int) < s.length := by omega
  have h0s : 0 < s.length := by omega
  have h0s' : (0 : Int) < s.length := by omega
  obtain ⟨d0, hd0, hat0⟩ : ∃ c, s[0] = c ∧ ∀ h : 0 < (⟨s.toArray⟩ : ByteArray).size, (⟨s.toArray⟩ : ByteArray)[0]'h = c := ⟨_, rfl, fun _ => rfl⟩
  obtain ⟨dl, hdl, hatl⟩ : ∃ c, s[L] = c ∧ ∀ h : L < (⟨s.toArray⟩ : ByteArray).size, (⟨s.toArray⟩ : ByteArray)[L]'h = c := ⟨_, rfl, fun _ => rfl⟩
  by_cases k0 : d0 = 47
  · subst k0
    have HV := hide (HNo.out (box_first (by rw [List.getElem?_eq_getElem h0s, hd0])))
    go_enter Tryd.func11, Tryd.ntmps11
    go_wp2
    go_ret2
    exact ⟨by rw [HV.out]; rfl, Below.refl _ _⟩
  have b0 : ((d0.toNat : Int) == 47) = false := beq_eq_false_iff_ne.2 (u8_lit d0 47 (by omega) k0)
  have H0 : Hid (s[0]? ≠ some 47) := by show _ ≠ _; rw [List.getElem?_eq_getElem h0s, hd0]; intro e; exact k0 (Option.some.inj e)
  by_cases kl : dl = 47
  · subst kl
    have HV := hide (HNo.out (box_end (by omega) (by have := HL.out; rw [show s.length - 1 = L from by omega, List.getElem?_eq_getElem hLs, hdl])))
    go_enter Tryd.func11, Tryd.ntmps11
    go_wp2
    go_ret2
    exact ⟨by rw [HV.out]; rfl, Below.refl _ _⟩
  have bl : ((dl.toNat : Int) == 47) = false := beq_eq_false_iff_ne.2 (u8_lit dl 47 (by omega) kl)
  have HLa : Hid (s[s.length - 1]? ≠ some 47) := by
    show _ ≠ _
    have := HL.out
    rw [show s.length - 1 = L from by omega, List.getElem?_eq_getElem hLs, hdl]
    intro e
    exact kl (Option.some.inj e)
  have HP := hide (fun c w => rplain_any c false w)
  have HSm := hide (fun W => rsmall_any s W hs)
  clear hd0 hdl
  go_enter Tryd.func11, Tryd.ntmps11
  go_wp2
  go_loopw [4] (fun v4 wr => ∃ i : Nat, v4 = .int .i64 i ∧ i ≤ s.length ∧ Hid (∀ j, j < i → atB s j) ∧ w = wr) (fun v4 _ => s.length - (intOf v4).toNat)
  case atStart => exact ⟨0, rfl, Nat.zero_le _, (fun j h => by omega), rfl⟩
  case round =>
    obtain ⟨i, rfl, hi, Ha, rfl⟩ := hrel
    by_cases hlt : i < s.length
    · have hlt' : (i : Int) < s.length := by omega
      obtain ⟨d, hd, hat⟩ : ∃ c, s[i] = c ∧ ∀ h : i < (⟨s.toArray⟩ : ByteArray).size, (⟨s.toArray⟩ : ByteArray)[i]'h = c := ⟨_, rfl, fun _ => rfl⟩
      have Hg : Hid (s[i]? = some d) := by show _ = _; rw [List.getElem?_eq_getElem hlt, hd]
      clear hd
      have HPd := hide (HP.out d)
      cases hp : plnB false d with
      | false =>
        rw [hp] at HPd
        have HV : Hid (boxB s = false) := box_doc_no hlt H0.out (fun ⟨c, e1, e2, _⟩ => by
          rw [Hg.out] at e1
          cases e1
          rw [hp] at e2
          cases e2)
        have HV2 := hide (HNo.out HV.out)
        clear hp
        go_wp2_with (go_at_call 28; refine (HPd.out _).mono ?_; rintro e w' ⟨rfl, hw'⟩; subst hw')
        go_ret2
        exact ⟨by rw [HV2.out]; rfl, Below.refl _ _⟩
      | true =>
        rw [hp] at HPd
        by_cases h47 : d = 47
        · subst h47
          obtain ⟨j, Hj⟩ : ∃ j, Hid (i = j + 1) := by
            cases i with
            | zero => exact absurd Hg.out H0.out
            | succ j => exact ⟨j, hide rfl⟩
          have hj1 : (i : Int) - 1 = j := by have := Hj.out; omega
          have hjs : j < s.length := by have := Hj.out; omega
          have hjs' : (j : Int) < s.length := by omega
          obtain ⟨q, hq, hatq⟩ : ∃ c, s[j] = c ∧ ∀ h : j < (⟨s.toArray⟩ : ByteArray).size, (⟨s.toArray⟩ : ByteArray)[j]'h = c := ⟨_, rfl, fun _ => rfl⟩
          have Hgj : Hid (s[i - 1]? = some q) := by show _ = _; rw [Hj.out, Nat.add_sub_cancel, List.getElem?_eq_getElem hjs, hq]
          clear hq
          by_cases hq47 : q = 47
          · subst hq47
            have HV : Hid (boxB s = false) := box_doc_no hlt H0.out (fun ⟨c, e1, _, e3⟩ => by
              rw [Hg.out] at e1
              cases e1
              exact e3 rfl Hgj.out)
            have HV2 := hide (HNo.out HV.out)
            clear hp
            go_wp2_with (go_at_call 28; refine (HPd.out _).mono ?_; rintro e w' ⟨rfl, hw'⟩; subst hw')
            go_ret2
            exact ⟨by rw [HV2.out]; rfl, Below.refl _ _⟩
          · have bq : ((q.toNat : Int) == 47) = false := beq_eq_false_iff_ne.2 (u8_lit q 47 (by omega) hq47)
            have HN : Hid (∀ j, j < i + 1 → atB s j) := fun j hj => by
              by_cases hji : j = i
              · subst hji
                exact ⟨47, Hg.out, hp, fun _ e => by rw [Hgj.out] at e; exact hq47 (Option.some.inj e)⟩
              · exact Ha.out j (by omega)
            clear hp
            go_wp2_with (go_at_call 28; refine (HPd.out _).mono ?_; rintro e w' ⟨rfl, hw'⟩; subst hw')
            go_roundw
            case rel => exact ⟨i + 1, by go_num, by omega, HN.out, trivial⟩
            case measure => simp [intOf] <;> omega
        · have bd : ((d.toNat : Int) == 47) = false := beq_eq_false_iff_ne.2 (u8_lit d 47 (by omega) h47)
          have HN : Hid (∀ j, j < i + 1 → atB s j) := fun j hj => by
            by_cases hji : j = i
            · subst hji
              exact ⟨d, Hg.out, hp, fun e => absurd e h47⟩
            · exact Ha.out j (by omega)
          clear hp
          go_wp2_with (go_at_call 28; refine (HPd.out _).mono ?_; rintro e w' ⟨rfl, hw'⟩; subst hw')
          go_roundw
          case rel => exact ⟨i + 1, by go_num, by omega, HN.out, trivial⟩
          case measure => simp [intOf] <;> omega
    · obtain rfl : i = s.length := by omega
      have HV := hide (HYes.out (box_doc_yes (by omega) (by omega) H0.out HLa.out Ha.out))
      by_cases hin : s.map lowB = inboxL
      · rw [if_pos hin] at HV
        rw [hin] at HSm
        have HSm2 : Hid (∀ W, Calls Tryd.prog 29 #[.string ⟨s.toArray⟩] W fun e w' => e = .returned (.string ⟨#[105, 110, 98, 111, 120]⟩) ∧ Below W.heap.size W w') := HSm.out
        clear hin HSm
        go_wp2_with (go_at_call 29; refine (HSm2.out _).mono ?_; rintro e w3 ⟨rfl, hb3⟩; replace hb3 := hide hb3)
        go_ret2
        exact ⟨by rw [HV.out]; rfl, hb3.out⟩
      · rw [if_neg hin] at HV
        have hne : (s.map lowB == [105, 110, 98, 111, 120]) = false := beq_eq_false_iff_ne.2 hin
        clear hin
        generalize s.map lowB = q at *
        go_wp2_with (go_at_call 29; refine (HSm.out _).mono ?_; rintro e w3 ⟨rfl, hb3⟩; replace hb3 := hide hb3)
        go_ret2
        exact ⟨by rw [HV.out]; rfl, hb3.out⟩
end Go.Proofs.YtelpjiiladbigaaDoor
