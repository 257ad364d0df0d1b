/- The reader of package dates, whatever the text: what the reading of a date field takes. -/
import Derived.Test.YtabncmepkoiheaaDoorRp7
namespace Go.Proofs.YtabncmepkoiheaaDoor
open Go.RowKit
def dowOpt (σ : RS) : Option RS := if atDigF σ then some σ else dowF σ
def secOpt (σ : RS) : Option RS := if atF 58 σ then secondF σ else some σ
def skipO (σ : RS) : Option RS := some (skipF σ)
theorem short_dowOpt : Short dowOpt := fun σ τ h => by
  unfold dowOpt at h
  split at h
  · cases h
    exact Nat.le_refl _
  · exact short_dow _ _ h
theorem short_secOpt : Short secOpt := fun σ τ h => by
  unfold secOpt at h
  split at h
  · exact short_second _ _ h
  · cases h
    exact Nat.le_refl _
def pmailF (σ : RS) : Option RS := chainF [skipO, dowOpt, dayF, blanksF, monthF, blanksF, yearF, blanksF, hmF, secOpt, blanksF, zoneF, skipO] σ
section
variable (p : Addr) (b : Nat) (w : World) (σ : RS)
set_option maxRecDepth 20000 in
set_option maxHeartbeats 4000000 in
theorem pmail_out (hF : EF w b p) (k : RdS w b σ) (hl : σ.l.length ≤ 900) : Calls Tryd.prog 32 #[.pointer (some ⟨b, 0, none⟩)] w fun e w' => OutN p b w (pmailF σ) e w' := by
  have HSK := hide (skipBlanks_out b w σ k hl)
  have HF0 := hide hF
  have HL1 := hide (Nat.le_trans (skipF_len σ) hl)
  have HC1 : Hid (chainF [dowOpt, dayF, blanksF, monthF, blanksF, yearF, blanksF, hmF, secOpt, blanksF, zoneF, skipO] (skipF σ) = pmailF σ) := rfl
  clear k hF hl
  go_enter Tryd.func32, Tryd.ntmps32
  go_wp2_with fail
  refine HSK.out.mono ?_
  rintro e w1 ⟨rfl, hm1, hr1⟩
  have HF1 := hide (HF0.out.mv hm1)
  have HM1 := hide hm1
  have HR1 := hide hr1
  clear hm1 hr1
  go_wp2_with fail
  refine (atDigit_out b _ (skipF σ) HR1.out).mono ?_
  cases hq : atDigF (skipF σ) with
  | true =>
    have hd1 : dowOpt (skipF σ) = some (skipF σ) := by unfold dowOpt; rw [hq]; rfl
    have HL2 := HL1
    have HC2 := hide ((chain_yes hd1).symm.trans HC1.out)
    rintro e w' ⟨rfl, hw⟩
    obtain rfl := hw.symm
    have HM2 := HM1
    have HF2 := HF1
    have HR2 := HR1
    clear hd1 hq
    go_wp2_with fail
    refine (day_out p b _ (skipF σ) HF2.out HR2.out HL2.out).mono ?_
    cases hd2 : dayF (skipF σ) with
    | none =>
      rintro e w3 ⟨hm3, rfl⟩
      exact go_panic (fn := Tryd.f32) rfl (OutN.no (HM2.out.trans hm3) (HC2.out.symm.trans (chain_no hd2)))
    | some τ2 =>
      have HL3 := hide (Nat.le_trans (short_day _ _ hd2) HL2.out)
      have HC3 := hide ((chain_yes hd2).symm.trans HC2.out)
      rintro e w3 ⟨hm3, rfl, hr3⟩
      have HM3 := hide (HM2.out.trans hm3)
      have HF3 := hide (HF2.out.mv hm3)
      have HR3 := hide hr3
      clear hd2 hm3 hr3
      go_wp2_with fail
      refine (blanks_out p b _ τ2 HF3.out HR3.out HL3.out).mono ?_
      cases hd3 : blanksF τ2 with
      | none =>
        rintro e w4 ⟨hm4, rfl⟩
        exact go_panic (fn := Tryd.f32) rfl (OutN.no (HM3.out.trans hm4) (HC3.out.symm.trans (chain_no hd3)))
      | some τ3 =>
        have HL4 := hide (Nat.le_trans (short_blanks _ _ hd3) HL3.out)
        have HC4 := hide ((chain_yes hd3).symm.trans HC3.out)
        rintro e w4 ⟨hm4, rfl, hr4⟩
        have HM4 := hide (HM3.out.trans hm4)
        have HF4 := hide (HF3.out.mv hm4)
        have HR4 := hide hr4
        clear hd3 hm4 hr4
        go_wp2_with fail
        refine (month_out p b _ τ3 HF4.out HR4.out HL4.out).mono ?_
        cases hd4 : monthF τ3 with
        | none =>
          rintro e w5 ⟨hm5, rfl⟩
          exact go_panic (fn := Tryd.f32) rfl (OutN.no (HM4.out.trans hm5) (HC4.out.symm.trans (chain_no hd4)))
        | some τ4 =>
          have HL5 := hide (Nat.le_trans (short_month _ _ hd4) HL4.out)
          have HC5 := hide ((chain_yes hd4).symm.trans HC4.out)
          rintro e w5 ⟨hm5, rfl, hr5⟩
          have HM5 := hide (HM4.out.trans hm5)
          have HF5 := hide (HF4.out.mv hm5)
          have HR5 := hide hr5
          clear hd4 hm5 hr5
          go_wp2_with fail
          refine (blanks_out p b _ τ4 HF5.out HR5.out HL5.out).mono ?_
          cases hd5 : blanksF τ4 with
          | none =>
            rintro e w6 ⟨hm6, rfl⟩
            exact go_panic (fn := Tryd.f32) rfl (OutN.no (HM5.out.trans hm6) (HC5.out.symm.trans (chain_no hd5)))
          | some τ5 =>
            have HL6 := hide (Nat.le_trans (short_blanks _ _ hd5) HL5.out)
            have HC6 := hide ((chain_yes hd5).symm.trans HC5.out)
            rintro e w6 ⟨hm6, rfl, hr6⟩
            have HM6 := hide (HM5.out.trans hm6)
            have HF6 := hide (HF5.out.mv hm6)
            have HR6 := hide hr6
            clear hd5 hm6 hr6
            go_wp2_with fail
            refine (year_out p b _ τ5 HF6.out HR6.out HL6.out).mono ?_
            cases hd6 : yearF τ5 with
            | none =>
              rintro e w7 ⟨hm7, rfl⟩
              exact go_panic (fn := Tryd.f32) rfl (OutN.no (HM6.out.trans hm7) (HC6.out.symm.trans (chain_no hd6)))
            | some τ6 =>
              have HL7 := hide (Nat.le_trans (short_year _ _ hd6) HL6.out)
              have HC7 := hide ((chain_yes hd6).symm.trans HC6.out)
              rintro e w7 ⟨hm7, rfl, hr7⟩
              have HM7 := hide (HM6.out.trans hm7)
              have HF7 := hide (HF6.out.mv hm7)
              have HR7 := hide hr7
              clear hd6 hm7 hr7
              go_wp2_with fail
              refine (blanks_out p b _ τ6 HF7.out HR7.out HL7.out).mono ?_
              cases hd7 : blanksF τ6 with
              | none =>
                rintro e w8 ⟨hm8, rfl⟩
                exact go_panic (fn := Tryd.f32) rfl (OutN.no (HM7.out.trans hm8) (HC7.out.symm.trans (chain_no hd7)))
              | some τ7 =>
                have HL8 := hide (Nat.le_trans (short_blanks _ _ hd7) HL7.out)
                have HC8 := hide ((chain_yes hd7).symm.trans HC7.out)
                rintro e w8 ⟨hm8, rfl, hr8⟩
                have HM8 := hide (HM7.out.trans hm8)
                have HF8 := hide (HF7.out.mv hm8)
                have HR8 := hide hr8
                clear hd7 hm8 hr8
                go_wp2_with fail
                refine (hourAndMinute_out p b _ τ7 HF8.out HR8.out HL8.out).mono ?_
                cases hd8 : hmF τ7 with
                | none =>
                  rintro e w9 ⟨hm9, rfl⟩
                  exact go_panic (fn := Tryd.f32) rfl (OutN.no (HM8.out.trans hm9) (HC8.out.symm.trans (chain_no hd8)))
                | some τ8 =>
                  have HL9 := hide (Nat.le_trans (short_hm _ _ hd8) HL8.out)
                  have HC9 := hide ((chain_yes hd8).symm.trans HC8.out)
                  rintro e w9 ⟨hm9, rfl, hr9⟩
                  have HM9 := hide (HM8.out.trans hm9)
                  have HF9 := hide (HF8.out.mv hm9)
                  have HR9 := hide hr9
                  clear hd8 hm9 hr9
                  go_wp2_with fail
                  refine (at_out b _ τ8 58 HR9.out).mono ?_
                  cases hq : atF 58 τ8 with
                  | false =>
                    have hd9 : secOpt τ8 = some τ8 := by unfold secOpt; rw [hq]; rfl
                    have HL10 := HL9
                    have HC10 := hide ((chain_yes hd9).symm.trans HC9.out)
                    rintro e w' ⟨rfl, hw⟩
                    obtain rfl := hw.symm
                    have HM10 := HM9
                    have HF10 := HF9
                    have HR10 := HR9
                    clear hd9 hq
                    go_wp2_with fail
                    refine (blanks_out p b _ τ8 HF10.out HR10.out HL10.out).mono ?_
                    cases hd10 : blanksF τ8 with
                    | none =>
                      rintro e w11 ⟨hm11, rfl⟩
                      exact go_panic (fn := Tryd.f32) rfl (OutN.no (HM10.out.trans hm11) (HC10.out.symm.trans (chain_no hd10)))
                    | some τ10 =>
                      have HL11 := hide (Nat.le_trans (short_blanks _ _ hd10) HL10.out)
                      have HC11 := hide ((chain_yes hd10).symm.trans HC10.out)
                      rintro e w11 ⟨hm11, rfl, hr11⟩
                      have HM11 := hide (HM10.out.trans hm11)
                      have HF11 := hide (HF10.out.mv hm11)
                      have HR11 := hide hr11
                      clear hd10 hm11 hr11
                      go_wp2_with fail
                      refine (zone_out p b _ τ10 HF11.out HR11.out HL11.out).mono ?_
                      cases hd11 : zoneF τ10 with
                      | none =>
                        rintro e w12 ⟨hm12, rfl⟩
                        exact go_panic (fn := Tryd.f32) rfl (OutN.no (HM11.out.trans hm12) (HC11.out.symm.trans (chain_no hd11)))
                      | some τ11 =>
                        have HL12 := hide (Nat.le_trans (short_zone _ _ hd11) HL11.out)
                        have HC12 := hide ((chain_yes hd11).symm.trans HC11.out)
                        rintro e w12 ⟨hm12, rfl, hr12⟩
                        have HM12 := hide (HM11.out.trans hm12)
                        have HF12 := hide (HF11.out.mv hm12)
                        have HR12 := hide hr12
                        clear hd11 hm12 hr12
                        go_wp2_with fail
                        refine (skipBlanks_out b _ τ11 HR12.out HL12.out).mono ?_
                        rintro e w13 ⟨rfl, hm13, hr13⟩
                        have HM13 := hide (HM12.out.trans hm13)
                        have HR13 := hide hr13
                        clear hm13 hr13
                        go_wp2
                        go_end0
                        exact OutN.yes HM13.out HC12.out.symm HR13.out
                  | true =>
                    have he : secOpt τ8 = secondF τ8 := by unfold secOpt; rw [hq]; rfl
                    have HQ := hide he
                    rintro e w' ⟨rfl, hw⟩
                    obtain rfl := hw.symm
                    clear hq he
                    go_wp2_with fail
                    refine (second_out p b _ τ8 HF9.out HR9.out HL9.out).mono ?_
                    rw [← HQ.out]
                    cases hd9 : secOpt τ8 with
                    | none =>
                      rintro e w10 ⟨hm10, rfl⟩
                      exact go_panic (fn := Tryd.f32) rfl (OutN.no (HM9.out.trans hm10) (HC9.out.symm.trans (chain_no hd9)))
                    | some τ9 =>
                      have HL10 := hide (Nat.le_trans (short_secOpt _ _ hd9) HL9.out)
                      have HC10 := hide ((chain_yes hd9).symm.trans HC9.out)
                      rintro e w10 ⟨hm10, rfl, hr10⟩
                      have HM10 := hide (HM9.out.trans hm10)
                      have HF10 := hide (HF9.out.mv hm10)
                      have HR10 := hide hr10
                      clear hd9 hm10 hr10
                      go_wp2_with fail
                      refine (blanks_out p b _ τ9 HF10.out HR10.out HL10.out).mono ?_
                      cases hd10 : blanksF τ9 with
                      | none =>
                        rintro e w11 ⟨hm11, rfl⟩
                        exact go_panic (fn := Tryd.f32) rfl (OutN.no (HM10.out.trans hm11) (HC10.out.symm.trans (chain_no hd10)))
                      | some τ10 =>
                        have HL11 := hide (Nat.le_trans (short_blanks _ _ hd10) HL10.out)
                        have HC11 := hide ((chain_yes hd10).symm.trans HC10.out)
                        rintro e w11 ⟨hm11, rfl, hr11⟩
                        have HM11 := hide (HM10.out.trans hm11)
                        have HF11 := hide (HF10.out.mv hm11)
                        have HR11 := hide hr11
                        clear hd10 hm11 hr11
                        go_wp2_with fail
                        refine (zone_out p b _ τ10 HF11.out HR11.out HL11.out).mono ?_
                        cases hd11 : zoneF τ10 with
                        | none =>
                          rintro e w12 ⟨hm12, rfl⟩
                          exact go_panic (fn := Tryd.f32) rfl (OutN.no (HM11.out.trans hm12) (HC11.out.symm.trans (chain_no hd11)))
                        | some τ11 =>
                          have HL12 := hide (Nat.le_trans (short_zone _ _ hd11) HL11.out)
                          have HC12 := hide ((chain_yes hd11).symm.trans HC11.out)
                          rintro e w12 ⟨hm12, rfl, hr12⟩
                          have HM12 := hide (HM11.out.trans hm12)
                          have HF12 := hide (HF11.out.mv hm12)
                          have HR12 := hide hr12
                          clear hd11 hm12 hr12
                          go_wp2_with fail
                          refine (skipBlanks_out b _ τ11 HR12.out HL12.out).mono ?_
                          rintro e w13 ⟨rfl, hm13, hr13⟩
                          have HM13 := hide (HM12.out.trans hm13)
                          have HR13 := hide hr13
                          clear hm13 hr13
                          go_wp2
                          go_end0
                          exact OutN.yes HM13.out HC12.out.symm HR13.out
  | false =>
    have he : dowOpt (skipF σ) = dowF (skipF σ) := by unfold dowOpt; rw [hq]; rfl
    have HQ1 := hide he
    rintro e w' ⟨rfl, hw⟩
    obtain rfl := hw.symm
    clear hq he
    go_wp2_with fail
    refine (dayOfWeek_out p b _ (skipF σ) HF1.out HR1.out HL1.out).mono ?_
    rw [← HQ1.out]
    cases hd1 : dowOpt (skipF σ) with
    | none =>
      rintro e w2 ⟨hm2, rfl⟩
      exact go_panic (fn := Tryd.f32) rfl (OutN.no (HM1.out.trans hm2) (HC1.out.symm.trans (chain_no hd1)))
    | some τ1 =>
      have HL2 := hide (Nat.le_trans (short_dowOpt _ _ hd1) HL1.out)
      have HC2 := hide ((chain_yes hd1).symm.trans HC1.out)
      rintro e w2 ⟨hm2, rfl, hr2⟩
      have HM2 := hide (HM1.out.trans hm2)
      have HF2 := hide (HF1.out.mv hm2)
      have HR2 := hide hr2
      clear hd1 hm2 hr2
      go_wp2_with fail
      refine (day_out p b _ τ1 HF2.out HR2.out HL2.out).mono ?_
      cases hd2 : dayF τ1 with
      | none =>
        rintro e w3 ⟨hm3, rfl⟩
        exact go_panic (fn := Tryd.f32) rfl (OutN.no (HM2.out.trans hm3) (HC2.out.symm.trans (chain_no hd2)))
      | some τ2 =>
        have HL3 := hide (Nat.le_trans (short_day _ _ hd2) HL2.out)
        have HC3 := hide ((chain_yes hd2).symm.trans HC2.out)
        rintro e w3 ⟨hm3, rfl, hr3⟩
        have HM3 := hide (HM2.out.trans hm3)
        have HF3 := hide (HF2.out.mv hm3)
        have HR3 := hide hr3
        clear hd2 hm3 hr3
        go_wp2_with fail
        refine (blanks_out p b _ τ2 HF3.out HR3.out HL3.out).mono ?_
        cases hd3 : blanksF τ2 with
        | none =>
          rintro e w4 ⟨hm4, rfl⟩
          exact go_panic (fn := Tryd.f32) rfl (OutN.no (HM3.out.trans hm4) (HC3.out.symm.trans (chain_no hd3)))
        | some τ3 =>
          have HL4 := hide (Nat.le_trans (short_blanks _ _ hd3) HL3.out)
          have HC4 := hide ((chain_yes hd3).symm.trans HC3.out)
          rintro e w4 ⟨hm4, rfl, hr4⟩
          have HM4 := hide (HM3.out.trans hm4)
          have HF4 := hide (HF3.out.mv hm4)
          have HR4 := hide hr4
          clear hd3 hm4 hr4
          go_wp2_with fail
          refine (month_out p b _ τ3 HF4.out HR4.out HL4.out).mono ?_
          cases hd4 : monthF τ3 with
          | none =>
            rintro e w5 ⟨hm5, rfl⟩
            exact go_panic (fn := Tryd.f32) rfl (OutN.no (HM4.out.trans hm5) (HC4.out.symm.trans (chain_no hd4)))
          | some τ4 =>
            have HL5 := hide (Nat.le_trans (short_month _ _ hd4) HL4.out)
            have HC5 := hide ((chain_yes hd4).symm.trans HC4.out)
            rintro e w5 ⟨hm5, rfl, hr5⟩
            have HM5 := hide (HM4.out.trans hm5)
            have HF5 := hide (HF4.out.mv hm5)
            have HR5 := hide hr5
            clear hd4 hm5 hr5
            go_wp2_with fail
            refine (blanks_out p b _ τ4 HF5.out HR5.out HL5.out).mono ?_
            cases hd5 : blanksF τ4 with
            | none =>
              rintro e w6 ⟨hm6, rfl⟩
              exact go_panic (fn := Tryd.f32) rfl (OutN.no (HM5.out.trans hm6) (HC5.out.symm.trans (chain_no hd5)))
            | some τ5 =>
              have HL6 := hide (Nat.le_trans (short_blanks _ _ hd5) HL5.out)
              have HC6 := hide ((chain_yes hd5).symm.trans HC5.out)
              rintro e w6 ⟨hm6, rfl, hr6⟩
              have HM6 := hide (HM5.out.trans hm6)
              have HF6 := hide (HF5.out.mv hm6)
              have HR6 := hide hr6
              clear hd5 hm6 hr6
              go_wp2_with fail
              refine (year_out p b _ τ5 HF6.out HR6.out HL6.out).mono ?_
              cases hd6 : yearF τ5 with
              | none =>
                rintro e w7 ⟨hm7, rfl⟩
                exact go_panic (fn := Tryd.f32) rfl (OutN.no (HM6.out.trans hm7) (HC6.out.symm.trans (chain_no hd6)))
              | some τ6 =>
                have HL7 := hide (Nat.le_trans (short_year _ _ hd6) HL6.out)
                have HC7 := hide ((chain_yes hd6).symm.trans HC6.out)
                rintro e w7 ⟨hm7, rfl, hr7⟩
                have HM7 := hide (HM6.out.trans hm7)
                have HF7 := hide (HF6.out.mv hm7)
                have HR7 := hide hr7
                clear hd6 hm7 hr7
                go_wp2_with fail
                refine (blanks_out p b _ τ6 HF7.out HR7.out HL7.out).mono ?_
                cases hd7 : blanksF τ6 with
                | none =>
                  rintro e w8 ⟨hm8, rfl⟩
                  exact go_panic (fn := Tryd.f32) rfl (OutN.no (HM7.out.trans hm8) (HC7.out.symm.trans (chain_no hd7)))
                | some τ7 =>
                  have HL8 := hide (Nat.le_trans (short_blanks _ _ hd7) HL7.out)
                  have HC8 := hide ((chain_yes hd7).symm.trans HC7.out)
                  rintro e w8 ⟨hm8, rfl, hr8⟩
                  have HM8 := hide (HM7.out.trans hm8)
                  have HF8 := hide (HF7.out.mv hm8)
                  have HR8 := hide hr8
                  clear hd7 hm8 hr8
                  go_wp2_with fail
                  refine (hourAndMinute_out p b _ τ7 HF8.out HR8.out HL8.out).mono ?_
                  cases hd8 : hmF τ7 with
                  | none =>
                    rintro e w9 ⟨hm9, rfl⟩
                    exact go_panic (fn := Tryd.f32) rfl (OutN.no (HM8.out.trans hm9) (HC8.out.symm.trans (chain_no hd8)))
                  | some τ8 =>
                    have HL9 := hide (Nat.le_trans (short_hm _ _ hd8) HL8.out)
                    have HC9 := hide ((chain_yes hd8).symm.trans HC8.out)
                    rintro e w9 ⟨hm9, rfl, hr9⟩
                    have HM9 := hide (HM8.out.trans hm9)
                    have HF9 := hide (HF8.out.mv hm9)
                    have HR9 := hide hr9
                    clear hd8 hm9 hr9
                    go_wp2_with fail
                    refine (at_out b _ τ8 58 HR9.out).mono ?_
                    cases hq : atF 58 τ8 with
                    | false =>
                      have hd9 : secOpt τ8 = some τ8 := by unfold secOpt; rw [hq]; rfl
                      have HL10 := HL9
                      have HC10 := hide ((chain_yes hd9).symm.trans HC9.out)
                      rintro e w' ⟨rfl, hw⟩
                      obtain rfl := hw.symm
                      have HM10 := HM9
                      have HF10 := HF9
                      have HR10 := HR9
                      clear hd9 hq
                      go_wp2_with fail
                      refine (blanks_out p b _ τ8 HF10.out HR10.out HL10.out).mono ?_
                      cases hd10 : blanksF τ8 with
                      | none =>
                        rintro e w11 ⟨hm11, rfl⟩
                        exact go_panic (fn := Tryd.f32) rfl (OutN.no (HM10.out.trans hm11) (HC10.out.symm.trans (chain_no hd10)))
                      | some τ10 =>
                        have HL11 := hide (Nat.le_trans (short_blanks _ _ hd10) HL10.out)
                        have HC11 := hide ((chain_yes hd10).symm.trans HC10.out)
                        rintro e w11 ⟨hm11, rfl, hr11⟩
                        have HM11 := hide (HM10.out.trans hm11)
                        have HF11 := hide (HF10.out.mv hm11)
                        have HR11 := hide hr11
                        clear hd10 hm11 hr11
                        go_wp2_with fail
                        refine (zone_out p b _ τ10 HF11.out HR11.out HL11.out).mono ?_
                        cases hd11 : zoneF τ10 with
                        | none =>
                          rintro e w12 ⟨hm12, rfl⟩
                          exact go_panic (fn := Tryd.f32) rfl (OutN.no (HM11.out.trans hm12) (HC11.out.symm.trans (chain_no hd11)))
                        | some τ11 =>
                          have HL12 := hide (Nat.le_trans (short_zone _ _ hd11) HL11.out)
                          have HC12 := hide ((chain_yes hd11).symm.trans HC11.out)
                          rintro e w12 ⟨hm12, rfl, hr12⟩
                          have HM12 := hide (HM11.out.trans hm12)
                          have HF12 := hide (HF11.out.mv hm12)
                          have HR12 := hide hr12
                          clear hd11 hm12 hr12
                          go_wp2_with fail
                          refine (skipBlanks_out b _ τ11 HR12.out HL12.out).mono ?_
                          rintro e w13 ⟨rfl, hm13, hr13⟩
                          have HM13 := hide (HM12.out.trans hm13)
                          have HR13 := hide hr13
                          clear hm13 hr13
                          go_wp2
                          go_end0
                          exact OutN.yes HM13.out HC12.out.symm HR13.out
                    | true =>
                      have he : secOpt τ8 = secondF τ8 := by unfold secOpt; rw [hq]; rfl
                      have HQ := hide he
                      rintro e w' ⟨rfl, hw⟩
                      obtain rfl := hw.symm
                      clear hq he
                      go_wp2_with fail
                      refine (second_out p b _ τ8 HF9.out HR9.out HL9.out).mono ?_
                      rw [← HQ.out]
                      cases hd9 : secOpt τ8 with
                      | none =>
                        rintro e w10 ⟨hm10, rfl⟩
                        exact go_panic (fn := Tryd.f32) rfl (OutN.no (HM9.out.trans hm10) (HC9.out.symm.trans (chain_no hd9)))
                      | some τ9 =>
                        have HL10 := hide (Nat.le_trans (short_secOpt _ _ hd9) HL9.out)
                        have HC10 := hide ((chain_yes hd9).symm.trans HC9.out)
                        rintro e w10 ⟨hm10, rfl, hr10⟩
                        have HM10 := hide (HM9.out.trans hm10)
                        have HF10 := hide (HF9.out.mv hm10)
                        have HR10 := hide hr10
                        clear hd9 hm10 hr10
                        go_wp2_with fail
                        refine (blanks_out p b _ τ9 HF10.out HR10.out HL10.out).mono ?_
                        cases hd10 : blanksF τ9 with
                        | none =>
                          rintro e w11 ⟨hm11, rfl⟩
                          exact go_panic (fn := Tryd.f32) rfl (OutN.no (HM10.out.trans hm11) (HC10.out.symm.trans (chain_no hd10)))
                        | some τ10 =>
                          have HL11 := hide (Nat.le_trans (short_blanks _ _ hd10) HL10.out)
                          have HC11 := hide ((chain_yes hd10).symm.trans HC10.out)
                          rintro e w11 ⟨hm11, rfl, hr11⟩
                          have HM11 := hide (HM10.out.trans hm11)
                          have HF11 := hide (HF10.out.mv hm11)
                          have HR11 := hide hr11
                          clear hd10 hm11 hr11
                          go_wp2_with fail
                          refine (zone_out p b _ τ10 HF11.out HR11.out HL11.out).mono ?_
                          cases hd11 : zoneF τ10 with
                          | none =>
                            rintro e w12 ⟨hm12, rfl⟩
                            exact go_panic (fn := Tryd.f32) rfl (OutN.no (HM11.out.trans hm12) (HC11.out.symm.trans (chain_no hd11)))
                          | some τ11 =>
                            have HL12 := hide (Nat.le_trans (short_zone _ _ hd11) HL11.out)
                            have HC12 := hide ((chain_yes hd11).symm.trans HC11.out)
                            rintro e w12 ⟨hm12, rfl, hr12⟩
                            have HM12 := hide (HM11.out.trans hm12)
                            have HF12 := hide (HF11.out.mv hm12)
                            have HR12 := hide hr12
                            clear hd11 hm12 hr12
                            go_wp2_with fail
                            refine (skipBlanks_out b _ τ11 HR12.out HL12.out).mono ?_
                            rintro e w13 ⟨rfl, hm13, hr13⟩
                            have HM13 := hide (HM12.out.trans hm13)
                            have HR13 := hide hr13
                            clear hm13 hr13
                            go_wp2
                            go_end0
                            exact OutN.yes HM13.out HC12.out.symm HR13.out
end
end Go.Proofs.YtabncmepkoiheaaDoor
