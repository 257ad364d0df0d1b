/- The reader of package dates, whatever the text: what the three readings take. -/
/- The reader of package dates, whatever the text: what the reading of a date field takes. -/
import Derived.Test.YtcmhaihoeecjoaaGreatDoorU22
section
namespace Go.Proofs.YtcmhaihoeecjoaaGreatDoor.Da
open Go.RowKit
def chainF : List (RS → Option RS) → RS → Option RS
  | [], σ => some σ
  | f :: fs, σ => (f σ).bind (chainF fs)
theorem chain_no {f : RS → Option RS} {fs : List (RS → Option RS)} {σ : RS} (h : f σ = none) : chainF (f :: fs) σ = none := by simp [chainF, h]
theorem chain_yes {f : RS → Option RS} {fs : List (RS → Option RS)} {σ τ : RS} (h : f σ = some τ) : chainF (f :: fs) σ = chainF fs τ := by simp [chainF, h]
def Short (f : RS → Option RS) : Prop := ∀ σ τ, f σ = some τ → τ.l.length ≤ σ.l.length
theorem short_mark (x : Nat) : Short (markF x) := fun _ _ h => markF_len h
theorem short_month : Short monthF := fun σ τ h => by
  obtain ⟨x, h1, rfl⟩ := Option.map_eq_some_iff.1 h
  exact (nameF_len h1).1
theorem short_year : Short yearF := fun σ τ h => by
  obtain ⟨x, h1, rfl⟩ := Option.map_eq_some_iff.1 h
  exact (digitsF_len h1).1
theorem short_hm : Short hmF := fun σ τ h => by
  unfold hmF at h
  obtain ⟨u, h1, h⟩ := Option.bind_eq_some_iff.1 h
  obtain ⟨v, h2, h3⟩ := Option.bind_eq_some_iff.1 h
  obtain ⟨x, k1, rfl⟩ := Option.map_eq_some_iff.1 h1
  obtain ⟨z, k3, rfl⟩ := Option.map_eq_some_iff.1 h3
  exact Nat.le_trans (digitsF_len k3).1 (Nat.le_trans (markF_len h2) (digitsF_len k1).1)
theorem short_second : Short secondF := fun σ τ h => by
  obtain ⟨v, h2, h3⟩ := Option.bind_eq_some_iff.1 h
  obtain ⟨z, k3, rfl⟩ := Option.map_eq_some_iff.1 h3
  exact Nat.le_trans (digitsF_len k3).1 (markF_len h2)
theorem short_blanks : Short blanksF := fun σ τ h => by
  unfold blanksF at h
  split at h
  · cases h
    exact skipF_len σ
  · cases h
theorem short_zoneD (g : Int) : Short (zoneD g) := fun σ τ h => by
  unfold zoneD at h
  obtain ⟨x, h1, h⟩ := Option.bind_eq_some_iff.1 h
  obtain ⟨z, h2, h⟩ := Option.bind_eq_some_iff.1 h
  split at h
  · cases h
  · cases h
    exact Nat.le_trans (digitsF_len h2).1 (digitsF_len h1).1
theorem short_zone : Short zoneF := fun σ τ h => by
  unfold zoneF at h
  split at h
  · exact Nat.le_trans (short_zoneD _ _ _ h) (dropF_len σ)
  · split at h
    · exact Nat.le_trans (short_zoneD _ _ _ h) (dropF_len σ)
    · cases h
theorem short_day : Short dayF := fun σ τ h => by
  unfold dayF at h
  obtain ⟨x, h1, h⟩ := Option.bind_eq_some_iff.1 h
  have l1 := (digitF_lt h1).2
  split at h
  · obtain ⟨z, h2, rfl⟩ := Option.map_eq_some_iff.1 h
    have l2 := (digitF_lt h2).2
    show z.2.l.length ≤ _
    omega
  · cases h
    show x.2.l.length ≤ _
    omega
theorem short_day2 : Short day2F := fun σ τ h => by
  unfold day2F at h
  split at h
  · obtain ⟨z, h2, rfl⟩ := Option.map_eq_some_iff.1 h
    have l2 := (digitF_lt h2).2
    have := dropF_len σ
    show z.2.l.length ≤ _
    omega
  · split at h
    · cases h
    · obtain ⟨z, h2, rfl⟩ := Option.map_eq_some_iff.1 h
      exact (digitsF_len h2).1
theorem short_dow : Short dowF := fun σ τ h => by
  unfold dowF at h
  obtain ⟨x, h1, h⟩ := Option.bind_eq_some_iff.1 h
  obtain ⟨z, h2, rfl⟩ := Option.map_eq_some_iff.1 h
  exact Nat.le_trans (skipF_len z) (Nat.le_trans (markF_len h2) (Nat.le_trans (skipF_len x.2) (nameF_len h1).1))
section
variable (p : Addr) (b : Nat) (w : World) (σ : RS)
theorem mark_outN (x : UInt8) (n : Nat) (hn : x.toNat = n) (hF : EF w b p) (k : RdS w b σ) (hl : σ.l.length ≤ 900) : Calls Tryz.prog 83 #[.pointer (some ⟨b, 0, none⟩), .int .u8 (n : Int)] w fun e w' => OutN p b w (markF n σ) e w' := by
  subst hn
  exact mark_out p b w σ x hF k hl
def pdayF (σ : RS) : Option RS := chainF [dayF, markF 45, monthF, markF 45, yearF] σ
def pintF (σ : RS) : Option RS := chainF [day2F, markF 45, monthF, markF 45, yearF, markF 32, hmF, secondF, markF 32, zoneF] σ
set_option maxRecDepth 20000 in
set_option maxHeartbeats 2000000 in
theorem pint_out (hF : EF w b p) (k : RdS w b σ) (hl : σ.l.length ≤ 900) : Calls Tryz.prog 81 #[.pointer (some ⟨b, 0, none⟩)] w fun e w' => OutN p b w (pintF σ) e w' := by
  have HR0 := hide k
  have HF0 := hide hF
  have HM0 := hide (Mv.refl b w)
  have HL0 := hide hl
  have HC0 : Hid (chainF [day2F, markF 45, monthF, markF 45, yearF, markF 32, hmF, secondF, markF 32, zoneF] σ = pintF σ) := rfl
  clear k hF hl
  go_enter Tryz.func81, Tryz.ntmps81
  go_wp2_with fail
  refine (dayInTwoPlaces_out p b _ σ HF0.out HR0.out HL0.out).mono ?_
  cases hd0 : day2F σ with
  | none =>
    rintro e w1 ⟨hm1, rfl⟩
    exact go_panic (fn := Tryz.f81) rfl (OutN.no (HM0.out.trans hm1) (HC0.out.symm.trans (chain_no hd0)))
  | some τ0 =>
    have HL1 := hide (Nat.le_trans (short_day2 _ _ hd0) HL0.out)
    have HC1 := hide ((chain_yes hd0).symm.trans HC0.out)
    rintro e w1 ⟨hm1, rfl, hr1⟩
    have HM1 := hide (HM0.out.trans hm1)
    have HF1 := hide (HF0.out.mv hm1)
    have HR1 := hide hr1
    clear hd0 hm1 hr1
    go_wp2_with fail
    refine (mark_outN p b _ τ0 45 45 rfl HF1.out HR1.out HL1.out).mono ?_
    cases hd1 : markF 45 τ0 with
    | none =>
      rintro e w2 ⟨hm2, rfl⟩
      exact go_panic (fn := Tryz.f81) rfl (OutN.no (HM1.out.trans hm2) (HC1.out.symm.trans (chain_no hd1)))
    | some τ1 =>
      have HL2 := hide (Nat.le_trans (short_mark 45 _ _ hd1) HL1.out)
      have HC2 := hide ((chain_yes hd1).symm.trans HC1.out)
      rintro e w2 ⟨hm2, rfl, hr2⟩
      have HM2 := hide (HM1.out.trans hm2)
      have HF2 := hide (HF1.out.mv hm2)
      have HR2 := hide hr2
      clear hd1 hm2 hr2
      go_wp2_with fail
      refine (month_out p b _ τ1 HF2.out HR2.out HL2.out).mono ?_
      cases hd2 : monthF τ1 with
      | none =>
        rintro e w3 ⟨hm3, rfl⟩
        exact go_panic (fn := Tryz.f81) rfl (OutN.no (HM2.out.trans hm3) (HC2.out.symm.trans (chain_no hd2)))
      | some τ2 =>
        have HL3 := hide (Nat.le_trans (short_month _ _ hd2) HL2.out)
        have HC3 := hide ((chain_yes hd2).symm.trans HC2.out)
        rintro e w3 ⟨hm3, rfl, hr3⟩
        have HM3 := hide (HM2.out.trans hm3)
        have HF3 := hide (HF2.out.mv hm3)
        have HR3 := hide hr3
        clear hd2 hm3 hr3
        go_wp2_with fail
        refine (mark_outN p b _ τ2 45 45 rfl HF3.out HR3.out HL3.out).mono ?_
        cases hd3 : markF 45 τ2 with
        | none =>
          rintro e w4 ⟨hm4, rfl⟩
          exact go_panic (fn := Tryz.f81) rfl (OutN.no (HM3.out.trans hm4) (HC3.out.symm.trans (chain_no hd3)))
        | some τ3 =>
          have HL4 := hide (Nat.le_trans (short_mark 45 _ _ hd3) HL3.out)
          have HC4 := hide ((chain_yes hd3).symm.trans HC3.out)
          rintro e w4 ⟨hm4, rfl, hr4⟩
          have HM4 := hide (HM3.out.trans hm4)
          have HF4 := hide (HF3.out.mv hm4)
          have HR4 := hide hr4
          clear hd3 hm4 hr4
          go_wp2_with fail
          refine (year_out p b _ τ3 HF4.out HR4.out HL4.out).mono ?_
          cases hd4 : yearF τ3 with
          | none =>
            rintro e w5 ⟨hm5, rfl⟩
            exact go_panic (fn := Tryz.f81) rfl (OutN.no (HM4.out.trans hm5) (HC4.out.symm.trans (chain_no hd4)))
          | some τ4 =>
            have HL5 := hide (Nat.le_trans (short_year _ _ hd4) HL4.out)
            have HC5 := hide ((chain_yes hd4).symm.trans HC4.out)
            rintro e w5 ⟨hm5, rfl, hr5⟩
            have HM5 := hide (HM4.out.trans hm5)
            have HF5 := hide (HF4.out.mv hm5)
            have HR5 := hide hr5
            clear hd4 hm5 hr5
            go_wp2_with fail
            refine (mark_outN p b _ τ4 32 32 rfl HF5.out HR5.out HL5.out).mono ?_
            cases hd5 : markF 32 τ4 with
            | none =>
              rintro e w6 ⟨hm6, rfl⟩
              exact go_panic (fn := Tryz.f81) rfl (OutN.no (HM5.out.trans hm6) (HC5.out.symm.trans (chain_no hd5)))
            | some τ5 =>
              have HL6 := hide (Nat.le_trans (short_mark 32 _ _ hd5) HL5.out)
              have HC6 := hide ((chain_yes hd5).symm.trans HC5.out)
              rintro e w6 ⟨hm6, rfl, hr6⟩
              have HM6 := hide (HM5.out.trans hm6)
              have HF6 := hide (HF5.out.mv hm6)
              have HR6 := hide hr6
              clear hd5 hm6 hr6
              go_wp2_with fail
              refine (hourAndMinute_out p b _ τ5 HF6.out HR6.out HL6.out).mono ?_
              cases hd6 : hmF τ5 with
              | none =>
                rintro e w7 ⟨hm7, rfl⟩
                exact go_panic (fn := Tryz.f81) rfl (OutN.no (HM6.out.trans hm7) (HC6.out.symm.trans (chain_no hd6)))
              | some τ6 =>
                have HL7 := hide (Nat.le_trans (short_hm _ _ hd6) HL6.out)
                have HC7 := hide ((chain_yes hd6).symm.trans HC6.out)
                rintro e w7 ⟨hm7, rfl, hr7⟩
                have HM7 := hide (HM6.out.trans hm7)
                have HF7 := hide (HF6.out.mv hm7)
                have HR7 := hide hr7
                clear hd6 hm7 hr7
                go_wp2_with fail
                refine (second_out p b _ τ6 HF7.out HR7.out HL7.out).mono ?_
                cases hd7 : secondF τ6 with
                | none =>
                  rintro e w8 ⟨hm8, rfl⟩
                  exact go_panic (fn := Tryz.f81) rfl (OutN.no (HM7.out.trans hm8) (HC7.out.symm.trans (chain_no hd7)))
                | some τ7 =>
                  have HL8 := hide (Nat.le_trans (short_second _ _ hd7) HL7.out)
                  have HC8 := hide ((chain_yes hd7).symm.trans HC7.out)
                  rintro e w8 ⟨hm8, rfl, hr8⟩
                  have HM8 := hide (HM7.out.trans hm8)
                  have HF8 := hide (HF7.out.mv hm8)
                  have HR8 := hide hr8
                  clear hd7 hm8 hr8
                  go_wp2_with fail
                  refine (mark_outN p b _ τ7 32 32 rfl HF8.out HR8.out HL8.out).mono ?_
                  cases hd8 : markF 32 τ7 with
                  | none =>
                    rintro e w9 ⟨hm9, rfl⟩
                    exact go_panic (fn := Tryz.f81) rfl (OutN.no (HM8.out.trans hm9) (HC8.out.symm.trans (chain_no hd8)))
                  | some τ8 =>
                    have HL9 := hide (Nat.le_trans (short_mark 32 _ _ hd8) HL8.out)
                    have HC9 := hide ((chain_yes hd8).symm.trans HC8.out)
                    rintro e w9 ⟨hm9, rfl, hr9⟩
                    have HM9 := hide (HM8.out.trans hm9)
                    have HF9 := hide (HF8.out.mv hm9)
                    have HR9 := hide hr9
                    clear hd8 hm9 hr9
                    go_wp2_with fail
                    refine (zone_out p b _ τ8 HF9.out HR9.out HL9.out).mono ?_
                    cases hd9 : zoneF τ8 with
                    | none =>
                      rintro e w10 ⟨hm10, rfl⟩
                      exact go_panic (fn := Tryz.f81) rfl (OutN.no (HM9.out.trans hm10) (HC9.out.symm.trans (chain_no hd9)))
                    | some τ9 =>
                      have HL10 := hide (Nat.le_trans (short_zone _ _ hd9) HL9.out)
                      have HC10 := hide ((chain_yes hd9).symm.trans HC9.out)
                      rintro e w10 ⟨hm10, rfl, hr10⟩
                      have HM10 := hide (HM9.out.trans hm10)
                      have HF10 := hide (HF9.out.mv hm10)
                      have HR10 := hide hr10
                      clear hd9 hm10 hr10
                      go_wp2
                      go_end0
                      exact OutN.yes HM10.out HC10.out.symm HR10.out
end
end Go.Proofs.YtcmhaihoeecjoaaGreatDoor.Da

end
section
namespace Go.Proofs.YtcmhaihoeecjoaaGreatDoor.Da
open Go.RowKit
def dowOpt (σ : RS) : Option RS := if atDigF σ then some σ else dowF σ
def secOpt (σ : RS) : Option RS := if atF 58 σ then secondF σ else some σ
def skipO (σ : RS) : Option RS := some (skipF σ)
theorem short_dowOpt : Short dowOpt := fun σ τ h => by
  unfold dowOpt at h
  split at h
  · cases h
    exact Nat.le_refl _
  · exact short_dow _ _ h
theorem short_secOpt : Short secOpt := fun σ τ h => by
  unfold secOpt at h
  split at h
  · exact short_second _ _ h
  · cases h
    exact Nat.le_refl _
def pmailF (σ : RS) : Option RS := chainF [skipO, dowOpt, dayF, blanksF, monthF, blanksF, yearF, blanksF, hmF, secOpt, blanksF, zoneF, skipO] σ
section
variable (p : Addr) (b : Nat) (w : World) (σ : RS)
end
end Go.Proofs.YtcmhaihoeecjoaaGreatDoor.Da

end
