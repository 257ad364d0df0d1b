/- behindQuoted, behindAngle, behind, place of package envelope. -/
import Derived.Test.YtkppeejbmalefaaDoorEnMath3
import Derived.Test.YtkppeejbmalefaaDoorHd2
namespace Go.Proofs.YtkppeejbmalefaaDoor
open Go.RowKit Go.Shelf
theorem u8_ne {c d : UInt8} {k : Int} (hk : (d.toNat : Int) = k) (h : c ≠ d) : ¬ ((c.toNat : Int) = k) := fun e => h (UInt8.toNat_inj.1 (Int.ofNat.inj (e.trans hk.symm)))
theorem ret_i {a b : Int} (h : a = b) : Ending.returned (.int .i64 a) = .returned (.int .i64 b) := by rw [h]
theorem qL_34 (r : List UInt8) : qL (34 :: r) = 1 := by
  cases r <;> simp [qL]
theorem qL_92 (d : UInt8) (r : List UInt8) : qL (92 :: d :: r) = qL r + 2 := by simp [qL]
theorem qL_1 (c : UInt8) : qL [c] = 1 := by simp [qL]
theorem qL_c {c : UInt8} (h : c ≠ 34) (h2 : c ≠ 92) (r : List UInt8) : qL (c :: r) = qL r + 1 := by
  cases r with
  | nil => simp [qL]
  | cons d r => rw [qL, if_neg h, if_neg h2]
theorem drop_at {l : List UInt8} {j : Nat} (hj : j < l.length) : l.drop j = l[j] :: l.drop (j + 1) := List.drop_eq_getElem_cons hj
theorem q_next {l : List UInt8} {j : Nat} (hj : j < l.length) (h : l[j] ≠ 34) (h2 : l[j] ≠ 92) : j + qL (l.drop j) = j + 1 + qL (l.drop (j + 1)) := by
  rw [drop_at hj, qL_c h h2]
  omega
theorem q_skip {l : List UInt8} {j : Nat} (hj : j < l.length) (h : l[j] = 92) : min (j + qL (l.drop j)) l.length = min (j + 2 + qL (l.drop (j + 2))) l.length := by
  rw [drop_at hj, h]
  by_cases hk : j + 1 < l.length
  · rw [drop_at hk, qL_92, show j + 1 + 1 = j + 2 from rfl]
    congr 1
    omega
  · rw [List.drop_of_length_le (by omega), List.drop_of_length_le (by omega), qL_1]
    simp [qL]
    omega
set_option maxHeartbeats 1000000 in
theorem bq_any (l : List UInt8) (k : Nat) (hk : k < l.length) (w : World) (hl : l.length ≤ 1000000) :
    Calls Tryd.prog 52 #[.string ⟨l.toArray⟩, .int .i64 k] w fun e w' => e = .returned (.int .i64 ((k + 1 + qL (l.drop (k + 1)) : Nat) : Int)) ∧ w' = w := by
  have hsz := size_lit l
  obtain ⟨E, hE⟩ : ∃ E, k + 1 + qL (l.drop (k + 1)) = E := ⟨_, rfl⟩
  have hEl : E ≤ l.length := by
    have := qL_le (l.drop (k + 1))
    rw [List.length_drop] at this
    omega
  have HE : Hid (E = min (k + 1 + qL (l.drop (k + 1))) l.length) := by show _ = _; omega
  rw [hE]
  clear hE
  go_enter Tryd.func52, Tryd.ntmps52
  go_wp2
  go_loop [1] (fun v => ∃ j : Nat, j ≤ l.length + 1 ∧ v = .int .i64 j ∧ Hid (E = min (j + qL (l.drop j)) l.length)) (fun v => l.length + 1 - (intOf v).toNat)
  case atStart => exact ⟨k + 1, by omega, by go_num, HE⟩
  case round =>
    obtain ⟨j, hj, rfl, HJ⟩ := hrel
    by_cases hlt : j < l.length
    · obtain ⟨c, hc, hat⟩ := at_str l j hlt
      have hlt' : (j : Int) < l.length := by omega
      by_cases h34 : c = 34
      · have hjn : E = j + 1 := by
          have h1 := HJ.out
          rw [drop_at hlt, hc, h34, qL_34] at h1
          omega
        subst h34
        clear HJ HE
        go_wp2
        go_ret
        exact ⟨ret_i (by omega), rfl⟩
      · have h34' := u8_ne (k := 34) rfl h34
        by_cases h92 : c = 92
        · have HN : Hid (E = min (j + 2 + qL (l.drop (j + 2))) l.length) := by
            show _ = _
            rw [← q_skip hlt (hc.trans h92)]
            exact HJ.out
          subst h92
          clear HJ HE
          go_wp2
          go_round
          case rel => exact ⟨j + 2, by omega, by go_num, HN⟩
          case measure => simp [intOf]; omega
        · have h92' := u8_ne (k := 92) rfl h92
          have HN : Hid (E = min (j + 1 + qL (l.drop (j + 1))) l.length) := by
            show _ = _
            rw [← q_next hlt (hc ▸ h34) (hc ▸ h92)]
            exact HJ.out
          clear HJ HE
          go_wp2
          go_round
          case rel => exact ⟨j + 1, by omega, by go_num, HN⟩
          case measure => simp [intOf]; omega
    · have hjn : E = l.length := by
        have h1 := HJ.out
        rw [List.drop_of_length_le (by omega)] at h1
        simp [qL] at h1
        omega
      have hlt' : ¬ ((j : Int) < l.length) := by omega
      clear HJ HE
      go_wp2
      go_ret
      exact ⟨ret_i (by omega), rfl⟩
theorem aL_in {p : List UInt8} (q : List UInt8) (h : (62 : UInt8) ∉ p) : aL (p ++ 62 :: q) = p.length + 1 := by
  induction p with
  | nil => simp [aL]
  | cons c r ih =>
    have hc : c ≠ 62 := fun e => h (by simp [e])
    rw [List.cons_append, aL, if_neg hc, ih (fun e => h (by simp [e]))]
    simp
theorem aL_out {p : List UInt8} (h : (62 : UInt8) ∉ p) : aL p = p.length := by
  induction p with
  | nil => simp [aL]
  | cons c r ih =>
    have hc : c ≠ 62 := fun e => h (by simp [e])
    rw [aL, if_neg hc, ih (fun e => h (by simp [e]))]
    simp
theorem ba_any (l : List UInt8) (k : Nat) (hk : k < l.length) (h60 : l[k] = 60) (w : World) (hl : l.length ≤ 1000000) :
    Calls Tryd.prog 53 #[.string ⟨l.toArray⟩, .int .i64 k] w fun e w' => e = .returned (.int .i64 ((k + 1 + aL (l.drop (k + 1)) : Nat) : Int)) ∧ w' = w := by
  have hsz := size_lit l
  have hd := drop_at hk
  rw [h60] at hd
  have e2 : (⟨l.toArray⟩ : ByteArray).extract k l.length = ⟨(l.drop k).toArray⟩ := ext_drop l k
  have hdl := List.length_drop (l := l) (i := k + 1)
  obtain ⟨r, hr⟩ : ∃ r, l.drop (k + 1) = r := ⟨_, rfl⟩
  rw [hr] at hd hdl ⊢
  rw [hd] at e2
  by_cases hb : (62 : UInt8) ∈ r
  · obtain ⟨p, q, rfl, hp⟩ := split_at_byte r hb
    have HI := hide (fun w => index_byte (60 :: (p ++ 62 :: q)) 62 (index_in (p := 60 :: p) q (by simp [hp])) w)
    rw [aL_in q hp]
    simp only [List.length_append, List.length_cons] at hdl
    generalize (60 :: (p ++ 62 :: q)) = S at *
    simp only [List.length_cons] at HI
    clear hr hd hb
    go_enter Tryd.func53, Tryd.ntmps53
    go_wp2_with (first
      | (go_at_call 71; refine (HI.out _).mono ?_; rintro e w2 ⟨rfl, rfl⟩))
    go_ret
    exact ⟨ret_i (by omega), rfl⟩
  · have HI := hide (fun w => index_byte (60 :: r) 62 (index_out (by simp [hb])) w)
    rw [aL_out hb]
    generalize (60 :: r) = S at *
    clear hr hd hb
    go_enter Tryd.func53, Tryd.ntmps53
    go_wp2_with (first
      | (go_at_call 71; refine (HI.out _).mono ?_; rintro e w2 ⟨rfl, rfl⟩))
    go_ret
    exact ⟨ret_i (by omega), rfl⟩
theorem be_any (l : List UInt8) (k : Nat) (hk : k < l.length) (w : World) (hl : l.length ≤ 1000000) :
    Calls Tryd.prog 33 #[.string ⟨l.toArray⟩, .int .i64 k] w fun e w' => e = .returned (.int .i64 ((k + stp (l.drop k) : Nat) : Int)) ∧ w' = w := by
  have hsz := size_lit l
  obtain ⟨c, hc, hat⟩ := at_str l k hk
  rw [drop_at hk, hc, stp_cons]
  by_cases h34 : c = 34
  · have HI := hide (fun w => bq_any l k hk w hl)
    rw [if_pos h34]
    generalize qL (l.drop (k + 1)) = E at *
    subst h34
    go_enter Tryd.func33, Tryd.ntmps33
    go_wp2_with (first
      | (go_at_call 52; refine (HI.out _).mono ?_; rintro e w2 ⟨rfl, rfl⟩))
    go_ret
    exact ⟨ret_i (by omega), rfl⟩
  · have h34' := u8_ne (k := 34) rfl h34
    rw [if_neg h34]
    by_cases h60 : c = 60
    · have HI := hide (fun w => ba_any l k hk (hc.trans h60) w hl)
      rw [if_pos h60]
      generalize aL (l.drop (k + 1)) = E at *
      subst h60
      go_enter Tryd.func33, Tryd.ntmps33
      go_wp2_with (first
        | (go_at_call 53; refine (HI.out _).mono ?_; rintro e w2 ⟨rfl, rfl⟩))
      go_ret
      exact ⟨ret_i (by omega), rfl⟩
    · have h60' := u8_ne (k := 60) rfl h60
      rw [if_neg h60]
      go_enter Tryd.func33, Tryd.ntmps33
      go_wp2
      go_ret
      exact ⟨ret_i (by omega), rfl⟩
theorem place_any (l : List UInt8) (m : UInt8) (w : World) (hl : l.length ≤ 1000000) :
    Calls Tryd.prog 15 #[.string ⟨l.toArray⟩, .int .u8 (m.toNat : Nat)] w fun e w' => e = .returned (.int .i64 ((plE m .o l : Nat) : Int)) ∧ w' = w := by
  have hsz := size_lit l
  obtain ⟨E, hE⟩ : ∃ E, plE m .o l = E := ⟨_, rfl⟩
  have HE : Hid (E = 0 + plE m .o (l.drop 0)) := by show _ = _; rw [← hE, List.drop_zero]; omega
  rw [hE]
  clear hE
  go_enter Tryd.func15, Tryd.ntmps15
  go_wp2
  go_loop [5] (fun v => ∃ j : Nat, j ≤ l.length ∧ v = .int .i64 j ∧ Hid (E = j + plE m .o (l.drop j))) (fun v => l.length - (intOf v).toNat)
  case atStart => exact ⟨0, by omega, rfl, HE⟩
  case round =>
    obtain ⟨j, hj, rfl, HJ⟩ := hrel
    clear HE
    by_cases hlt : j < l.length
    · obtain ⟨c, hc, hat⟩ := at_str l j hlt
      have hlt' : (j : Int) < l.length := by omega
      by_cases hm : c = m
      · have hjn : E = j := by
          have h1 := HJ.out
          rw [drop_at hlt, hc, hm] at h1
          simpa [plE] using h1
        subst hm
        clear HJ
        go_wp2
        go_ret
        exact ⟨ret_i (by omega), rfl⟩
      · have hm' : ¬ ((c.toNat : Int) = (m.toNat : Int)) := u8_ne rfl hm
        have HI := hide (fun w => be_any l j hlt w hl)
        have hp : 1 ≤ stp (l.drop j) := by rw [drop_at hlt]; exact stp_pos
        have hle : j + stp (l.drop j) ≤ l.length := by
          have := stp_le (l.drop j)
          rw [List.length_drop] at this
          omega
        have HN : Hid (E = (j + stp (l.drop j)) + plE m .o (l.drop (j + stp (l.drop j)))) := by
          show _ = _
          rw [HJ.out, Nat.add_assoc]
          congr 1
          rw [← List.drop_drop]
          conv => lhs; rw [drop_at hlt, hc, plE_step hm, ← hc, ← drop_at hlt]
        obtain ⟨q, hq⟩ : ∃ q, stp (l.drop j) = q := ⟨_, rfl⟩
        rw [hq] at HI HN hp hle
        clear HJ hq
        go_wp2_with (first
          | (go_at_call 33; refine (HI.out _).mono ?_; rintro e w2 ⟨rfl, rfl⟩))
        go_round
        case rel => exact ⟨j + q, by omega, by go_num, HN⟩
        case measure => simp [intOf]; omega
    · have hjn : E = j := by
        have h1 := HJ.out
        rw [List.drop_of_length_le (by omega)] at h1
        simpa [plE] using h1
      have hlt' : ¬ ((j : Int) < l.length) := by omega
      clear HJ
      go_wp2
      go_ret
      exact ⟨ret_i (by omega), rfl⟩
end Go.Proofs.YtkppeejbmalefaaDoor
