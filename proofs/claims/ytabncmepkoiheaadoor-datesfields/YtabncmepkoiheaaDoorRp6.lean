/- The reader of package dates, whatever the text: the day, and the day of the week. -/
import Derived.Test.YtabncmepkoiheaaDoorRp5
namespace Go.Proofs.YtabncmepkoiheaaDoor
open Go.RowKit
/-- The day: a digit, and another if there is one. -/
def dayF (σ : RS) : Option RS := (digitF σ).bind fun x => if atDigF x.2 then (digitF x.2).map fun z => { z.2 with d := (x.1 : Int) * 10 + z.1 } else some { x.2 with d := x.1 }
/-- The day in two places. -/
def day2F (σ : RS) : Option RS := if atF 32 σ then (digitF (dropF σ)).map fun x => { x.2 with d := x.1 } else if atF 48 σ then none else (digitsF 2 0 σ).map fun x => { x.2 with d := x.1 }
/-- The day of the week, and what stands behind it. -/
def dowF (σ : RS) : Option RS := (nameF wkdB σ).bind fun x => (markF 44 (skipF x.2)).map skipF
theorem digitF_date {σ τ : RS} {n : Nat} (h : digitF σ = some (n, τ)) : τ = { σ with l := τ.l } := by
  unfold digitF at h
  split at h
  · cases h
  · split at h
    · cases h
      rfl
    · cases h
theorem digitF_at {σ : RS} (h : atDigF σ = true) : ∃ n τ, digitF σ = some (n, τ) := by
  unfold atDigF at h
  unfold digitF
  split at h
  · cases h
  · exact ⟨_, _, by simp [h]; exact ⟨rfl, rfl⟩⟩
theorem markF_at {x : Nat} {σ : RS} (h : atF x σ = true) : markF x σ = some (dropF σ) := by
  unfold atF at h
  unfold markF dropF
  split at h
  · cases h
  · next c r hl =>
    simp at h
    simp [h, hl]
theorem skipF_len (σ : RS) : (skipF σ).l.length ≤ σ.l.length := by
  unfold skipF
  exact (List.dropWhile_suffix isBlk).length_le
theorem wrap_i64 (n : Int) (h0 : 0 ≤ n) (h1 : n ≤ 1000000) : IntKind.i64.wrap n = n := by
  simp [IntKind.wrap, IntKind.signed, IntKind.bits]
  split <;> omega
section
variable (p : Addr) (b : Nat) (w : World) (σ : RS)
/-- A digit that is there, and the cells behind it. -/
theorem digit_there (n : Nat) (τ : RS) (hF : EF w b p) (k : RdS w b σ) (hl : σ.l.length ≤ 900) (h : digitF σ = some (n, τ)) : Calls Tryd.prog 44 #[.pointer (some ⟨b, 0, none⟩)] w fun e w' => e = .returned (.int .i64 n) ∧ Mv b w w' ∧ Hid (RdS w' b τ) ∧ (∀ i, w'.cell? ⟨b, i, none⟩ = (rdr τ.l τ.y τ.m τ.d τ.h τ.mi τ.s τ.wk τ.a)[i]?) ∧ ∀ i, w'.frozen? ⟨b, i, none⟩ = false := by
  refine (digit_out p b w σ hF k hl).mono ?_
  rw [h]
  rintro e w' ⟨hm, rfl, hr⟩
  exact ⟨rfl, hm, hr, Blk.cell hr, Blk.frozen hr⟩
set_option linter.unusedSimpArgs false in
set_option maxRecDepth 20000 in
set_option maxHeartbeats 2000000 in
theorem day_out (hF : EF w b p) (k : RdS w b σ) (hl : σ.l.length ≤ 900) : Calls Tryd.prog 31 #[.pointer (some ⟨b, 0, none⟩)] w fun e w' => OutN p b w (dayF σ) e w' := by
  have HC := hide (digit_out p b w σ hF k hl)
  have HF := hide hF
  have HL := hide hl
  clear k hF hl
  go_enter Tryd.func31, Tryd.ntmps31
  go_wp2_with fail
  refine HC.out.mono ?_
  cases hd : digitF σ with
  | none =>
    rintro e w1 ⟨hm1, rfl⟩
    exact go_panic (fn := Tryd.f31) rfl (OutN.no hm1 (by simp [dayF, hd]))
  | some x =>
    obtain ⟨n, τ⟩ := x
    have hn := (digitF_lt hd).1
    have HT := hide (Nat.le_trans (Nat.le_of_lt (digitF_lt hd).2) HL.out)
    have HE := hide hd
    rintro e w1 ⟨hm1, rfl, hr1⟩
    have hc1 := Blk.cell hr1
    have hf1 := Blk.frozen hr1
    unfold rdr at hc1
    have HR2 : Hid (RdS (w1.setCell ⟨b, 3, none⟩ (.int .i64 n)) b { τ with d := (n : Int) }) := Blk.set hr1 3 _
    have HM2 := hide (hm1.setCell 3 (.int .i64 n))
    have HF2 := hide (HF.out.mv HM2.out)
    clear hd hm1 hr1
    go_wp2_with fail
    have hA := atDigit_out b _ _ HR2.out
    rw [show atDigF { τ with d := (n : Int) } = atDigF τ from rfl] at hA
    refine hA.mono ?_
    clear hA hc1 hf1
    cases hq : atDigF τ with
    | false =>
      rintro e w' ⟨rfl, hw⟩
      obtain rfl := hw.symm
      have HN : Hid (dayF σ = some { τ with d := (n : Int) }) := by
        show _ = _
        simp [dayF, HE.out, hq]
      clear hq
      go_wp2
      go_end0
      exact OutN.yes HM2.out HN.out HR2.out
    | true =>
      obtain ⟨z, τ', hz⟩ := digitF_at hq
      have hz10 := (digitF_lt hz).1
      have hzd : digitF { τ with d := (n : Int) } = some (z, { τ' with d := (n : Int) }) := by
        have h2 := hz
        unfold digitF at h2 ⊢
        split at h2
        · cases h2
        · next c r hc =>
          simp only [hc]
          split at h2
          · next hdg =>
            cases h2
            rw [if_pos hdg]
          · cases h2
      have HN : Hid (dayF σ = some { τ' with d := (n : Int) * 10 + z }) := by
        show _ = _
        simp [dayF, HE.out, hq, hz]
      rintro e w' ⟨rfl, hw⟩
      obtain rfl := hw.symm
      have hc2 := Blk.cell HR2.out
      have hf2 := Blk.frozen HR2.out
      unfold rdr at hc2
      have HZ := hide hzd
      clear hq hz hzd
      generalize w1.setCell ⟨b, 3, none⟩ (.int .i64 n) = w2 at *
      have HR2d : Hid (RdS w2.drew b { τ with d := (n : Int) }) := HR2
      have HF2d : Hid (EF w2.drew b p) := HF2.out.mv ((Mv.refl _ _).drew)
      go_wp2_with fail
      go_region_with (go_at_call 44; refine (digit_there p b _ _ z _ HF2d.out HR2d.out HT.out HZ.out).mono ?_; rintro e w3 ⟨rfl, hm3, hr3, hc3, hf3⟩; unfold rdr at hc3)
      all_goals
        go_wp2
        go_end0
        refine OutN.yes ((HM2.out.trans (Mv.of_drew hm3)).setCell 3 _) HN.out ?_
        rw [wrap_i64 ((n : Int) * 10) (by omega) (by omega), wrap_i64 ((n : Int) * 10 + z) (by omega) (by omega)]
        exact Blk.set hr3.out 3 _
set_option linter.unusedSimpArgs false in
set_option maxRecDepth 20000 in
set_option maxHeartbeats 2000000 in
theorem dayInTwoPlaces_out (hF : EF w b p) (k : RdS w b σ) (hl : σ.l.length ≤ 900) : Calls Tryd.prog 17 #[.pointer (some ⟨b, 0, none⟩)] w fun e w' => OutN p b w (day2F σ) e w' := by
  have H32 := hide (at_out b w σ 32 k)
  have H48 := hide (at_out b w σ 48 k)
  have HMK := hide (mark_out p b w σ 32 hF k hl)
  have HDG := hide (digits_out p b w σ 2 (by decide) hF k hl)
  have HF := hide hF
  have HL := hide hl
  clear k hF hl
  cases h32 : atF 32 σ with
  | true =>
    have hmk := markF_at h32
    rw [h32] at H32
    rw [show (32 : UInt8).toNat = 32 from rfl, hmk] at HMK
    have HLd := hide (Nat.le_trans (dropF_len σ) HL.out)
    go_enter Tryd.func17, Tryd.ntmps17
    go_wp2_with fail
    refine H32.out.mono ?_
    rintro e w' ⟨rfl, hw⟩
    obtain rfl := hw.symm
    go_wp2_with fail
    refine HMK.out.mono ?_
    rintro e w1 ⟨hm1, rfl, hr1⟩
    have HF1 := hide (HF.out.mv hm1)
    replace hm1 := hide hm1
    replace hr1 := hide hr1
    go_wp2_with fail
    refine (digit_out p b _ (dropF σ) HF1.out hr1.out HLd.out).mono ?_
    cases hd : digitF (dropF σ) with
    | none =>
      rintro e w2 ⟨hm2, rfl⟩
      exact go_panic (fn := Tryd.f17) rfl (OutN.no (hm1.out.trans hm2) (by simp [day2F, h32, hd]))
    | some x =>
      obtain ⟨n, τ⟩ := x
      have HN : Hid (day2F σ = some { τ with d := (n : Int) }) := by
        show _ = _
        simp [day2F, h32, hd]
      rintro e w2 ⟨hm2, rfl, hr2⟩
      have hc2 := Blk.cell hr2
      have hf2 := Blk.frozen hr2
      unfold rdr at hc2
      have HM2 := hide (hm1.out.trans hm2)
      replace hr2 := hide hr2
      clear hd hm2 h32 hmk
      go_wp2
      go_end0
      exact OutN.yes (HM2.out.setCell 3 _) HN.out (Blk.set hr2.out 3 _)
  | false =>
    rw [h32] at H32
    cases h48 : atF 48 σ with
    | true =>
      have HN : Hid (day2F σ = none) := by
        show _ = _
        simp [day2F, h32, h48]
      rw [h48] at H48
      clear h32 h48
      go_enter Tryd.func17, Tryd.ntmps17
      go_wp2_with fail
      refine H32.out.mono ?_
      rintro e w' ⟨rfl, hw⟩
      obtain rfl := hw.symm
      go_wp2_with fail
      refine H48.out.mono ?_
      rintro e w' ⟨rfl, hw⟩
      obtain rfl := hw.symm
      go_wp2_with fail
      refine (refuse_out _ b p HF.out).mono ?_
      rintro e w4 ⟨rfl, rfl⟩
      exact go_panic (fn := Tryd.f17) rfl (OutN.no (Mv.refl _ _) HN.out)
    | false =>
      rw [h48] at H48
      go_enter Tryd.func17, Tryd.ntmps17
      go_wp2_with fail
      refine H32.out.mono ?_
      rintro e w' ⟨rfl, hw⟩
      obtain rfl := hw.symm
      go_wp2_with fail
      refine H48.out.mono ?_
      rintro e w' ⟨rfl, hw⟩
      obtain rfl := hw.symm
      go_wp2_with fail
      refine HDG.out.mono ?_
      cases hd : digitsF 2 0 σ with
      | none =>
        rintro e w2 ⟨hm2, rfl⟩
        exact go_panic (fn := Tryd.f17) rfl (OutN.no hm2 (by simp [day2F, h32, h48, hd]))
      | some x =>
        obtain ⟨n, τ⟩ := x
        have HN : Hid (day2F σ = some { τ with d := (n : Int) }) := by
          show _ = _
          simp [day2F, h32, h48, hd]
        rintro e w2 ⟨hm2, rfl, hr2⟩
        have hc2 := Blk.cell hr2
        have hf2 := Blk.frozen hr2
        unfold rdr at hc2
        replace hm2 := hide hm2
        replace hr2 := hide hr2
        clear hd h32 h48
        go_wp2
        go_end0
        exact OutN.yes (hm2.out.setCell 3 _) HN.out (Blk.set hr2.out 3 _)
set_option linter.unusedSimpArgs false in
set_option maxRecDepth 20000 in
set_option maxHeartbeats 2000000 in
theorem dayOfWeek_out (hF : EF w b p) (k : RdS w b σ) (hl : σ.l.length ≤ 900) : Calls Tryd.prog 35 #[.pointer (some ⟨b, 0, none⟩)] w fun e w' => OutN p b w (dowF σ) e w' := by
  have HC := hide (name_wkd_out p b w σ hF k hl)
  have HF := hide hF
  have HL := hide hl
  clear k hF hl
  go_enter Tryd.func35, Tryd.ntmps35
  go_wp2_with fail
  refine HC.out.mono ?_
  cases hd : nameF wkdB σ with
  | none =>
    rintro e w1 ⟨hm1, rfl⟩
    exact go_panic (fn := Tryd.f35) rfl (OutN.no hm1 (by simp [dowF, hd]))
  | some x =>
    obtain ⟨n, τ⟩ := x
    have HT := hide (Nat.le_trans (nameF_len hd).1 HL.out)
    have HE := hide hd
    rintro e w1 ⟨hm1, rfl, hr1⟩
    replace hm1 := hide hm1
    replace hr1 := hide hr1
    clear hd
    go_wp2_with fail
    refine (skipBlanks_out b _ τ hr1.out HT.out).mono ?_
    rintro e w2 ⟨rfl, hm2, hr2⟩
    have HM2 := hide (hm1.out.trans hm2)
    have HF2 := hide (HF.out.mv HM2.out)
    have HT2 := hide (Nat.le_trans (skipF_len τ) HT.out)
    replace hr2 := hide hr2
    clear hm2
    go_wp2_with fail
    refine (mark_out p b _ (skipF τ) 44 HF2.out hr2.out HT2.out).mono ?_
    rw [show (44 : UInt8).toNat = 44 from rfl]
    cases hq : markF 44 (skipF τ) with
    | none =>
      rintro e w3 ⟨hm3, rfl⟩
      exact go_panic (fn := Tryd.f35) rfl (OutN.no (HM2.out.trans hm3) (by simp [dowF, HE.out, hq]))
    | some τ3 =>
      have HT3 := hide (Nat.le_trans (markF_len hq) HT2.out)
      have HN : Hid (dowF σ = some (skipF τ3)) := by
        show _ = _
        simp [dowF, HE.out, hq]
      rintro e w3 ⟨hm3, rfl, hr3⟩
      have HM3 := hide (HM2.out.trans hm3)
      replace hr3 := hide hr3
      clear hq hm3
      go_wp2_with fail
      refine (skipBlanks_out b _ τ3 hr3.out HT3.out).mono ?_
      rintro e w4 ⟨rfl, hm4, hr4⟩
      replace hm4 := hide hm4
      replace hr4 := hide hr4
      go_wp2
      go_end0
      exact OutN.yes (HM3.out.trans hm4.out) HN.out hr4.out
end
end Go.Proofs.YtabncmepkoiheaaDoor
