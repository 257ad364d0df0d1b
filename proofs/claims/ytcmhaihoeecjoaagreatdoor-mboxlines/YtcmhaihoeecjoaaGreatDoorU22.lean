/- The reader of package dates, whatever the text: the zone, the day, the day of the week. -/
/- The reader of package dates, whatever the text: the day, and the day of the week. -/
import Derived.Test.YtcmhaihoeecjoaaGreatDoorU21
import Derived.Deep.RegionWith
section
namespace Go.Proofs.YtcmhaihoeecjoaaGreatDoor.Da
open Go.RowKit
/-- The zone's digits, behind its sign. -/
def zoneD (g : Int) (σ : RS) : Option RS := (digitsF 2 0 σ).bind fun x => (digitsF 2 0 x.2).bind fun z => if 23 < x.1 ∨ 59 < z.1 then none else some { z.2 with a := g * ((x.1 : Int) * 3600 + (z.1 : Int) * 60) }
def zoneF (σ : RS) : Option RS := if atF 43 σ then zoneD 1 (dropF σ) else if atF 45 σ then zoneD (-1) (dropF σ) else none
theorem atF_ne {x : Nat} {σ : RS} (h : atF x σ = true) : σ.l ≠ [] := by
  intro e
  unfold atF at h
  rw [e] at h
  cases h
theorem dropF_len (σ : RS) : (dropF σ).l.length ≤ σ.l.length := by simp [dropF]
section
variable (p : Addr) (b : Nat) (w : World) (σ : RS)
set_option linter.unusedSimpArgs false in
set_option maxRecDepth 20000 in
set_option maxHeartbeats 2000000 in
theorem zone_out (hF : EF w b p) (k : RdS w b σ) (hl : σ.l.length ≤ 900) : Calls Tryz.prog 88 #[.pointer (some ⟨b, 0, none⟩)] w fun e w' => OutN p b w (zoneF σ) e w' := by
  have H43 := hide (at_out b w σ 43 k)
  have H45 := hide (at_out b w σ 45 k)
  have HF := hide hF
  by_cases hs : atF 43 σ = true ∨ atF 45 σ = true
  · have hne : σ.l ≠ [] := hs.elim atF_ne atF_ne
    have HSK := hide (skip1_out b w σ k hne hl)
    have HL := hide (Nat.le_trans (dropF_len σ) hl)
    clear k hF hl hne
    obtain ⟨east, hZ, hE43, hE45⟩ : ∃ east : Bool, zoneF σ = zoneD (if east then 1 else -1) (dropF σ) ∧ atF 43 σ = east ∧ (east = false → atF 45 σ = true) := by
      cases h1 : atF 43 σ with
      | true => exact ⟨true, by simp [zoneF, h1], rfl, fun h => by cases h⟩
      | false =>
        have h2 : atF 45 σ = true := hs.resolve_left (by rw [h1]; simp)
        exact ⟨false, by simp [zoneF, h1, h2], rfl, fun _ => h2⟩
    have HZ := hide hZ
    rw [hE43] at H43
    clear hZ hs hE43
    cases east with
    | true =>
      go_enter Tryz.func88, Tryz.ntmps88
      go_wp2_with fail
      refine H43.out.mono ?_
      rintro e w' ⟨rfl, hw⟩
      obtain rfl := hw.symm
      go_wp2_with fail
      refine HSK.out.mono ?_
      rintro e w1 ⟨rfl, hm1, hr1⟩
      have HF1 := hide (HF.out.mv hm1)
      replace hm1 := hide hm1
      replace hr1 := hide hr1
      go_wp2_with fail
      refine (digits_out p b _ (dropF σ) 2 (by decide) HF1.out hr1.out HL.out).mono ?_
      cases hd0 : digitsF 2 0 (dropF σ) with
      | none =>
        rintro e w2 ⟨hm2, rfl⟩
        exact go_panic (fn := Tryz.f88) rfl (OutN.no (hm1.out.trans hm2) (by rw [HZ.out]; simp [zoneD, hd0]))
      | some q0 =>
        obtain ⟨x0, τ0⟩ := q0
        have hx0 : x0 < 100 := (digitsF_len hd0).2
        have HT0 := hide (Nat.le_trans (digitsF_len hd0).1 HL.out)
        have HE0 := hide hd0
        rintro e w2 ⟨hm2, rfl, hr2⟩
        have HM2 := hide (hm1.out.trans hm2)
        have HF2 := hide (HF1.out.mv hm2)
        replace hr2 := hide hr2
        clear hd0 hm2
        go_wp2_with fail
        refine (digits_out p b _ τ0 2 (by decide) HF2.out hr2.out HT0.out).mono ?_
        cases hd1 : digitsF 2 0 τ0 with
        | none =>
          rintro e w3 ⟨hm3, rfl⟩
          exact go_panic (fn := Tryz.f88) rfl (OutN.no (HM2.out.trans hm3) (by rw [HZ.out]; simp [zoneD, HE0.out, hd1]))
        | some q1 =>
          obtain ⟨x1, τ1⟩ := q1
          have hx1 : x1 < 100 := (digitsF_len hd1).2
          have HE1 := hide hd1
          rintro e w3 ⟨hm3, rfl, hr3⟩
          have HM3 := hide (HM2.out.trans hm3)
          have HF3 := hide (HF2.out.mv hm3)
          have hc3 := Blk.cell hr3
          have hf3 := Blk.frozen hr3
          unfold rdr at hc3
          replace hr3 := hide hr3
          clear hd1 hm3
          by_cases hbad : 23 < x0 ∨ 59 < x1
          · have HN : Hid (zoneF σ = none) := by
              show _ = _
              rw [HZ.out]
              simp [zoneD, HE0.out, HE1.out, hbad]
            rcases hbad with hbad | hbad
            · have hb' : (23 : Int) < x0 := by omega
              go_wp2_with fail
              refine (refuse_out _ b p HF3.out).mono ?_
              rintro e w4 ⟨rfl, rfl⟩
              exact go_panic (fn := Tryz.f88) rfl (OutN.no HM3.out HN.out)
            · have hb' : (59 : Int) < x1 := by omega
              by_cases hb2 : (23 : Int) < x0
              · go_wp2_with fail
                refine (refuse_out _ b p HF3.out).mono ?_
                rintro e w4 ⟨rfl, rfl⟩
                exact go_panic (fn := Tryz.f88) rfl (OutN.no HM3.out HN.out)
              · go_wp2_with fail
                refine (refuse_out _ b p HF3.out).mono ?_
                rintro e w4 ⟨rfl, rfl⟩
                exact go_panic (fn := Tryz.f88) rfl (OutN.no HM3.out HN.out)
          · have hb0 : ¬ (23 : Int) < x0 := by omega
            have hb1 : ¬ (59 : Int) < x1 := by omega
            have HN : Hid (zoneF σ = some { τ1 with a := 1 * ((x0 : Int) * 3600 + (x1 : Int) * 60) }) := by
              show _ = _
              rw [HZ.out]
              simp [zoneD, HE0.out, HE1.out, hbad]
            go_wp2
            go_end0
            exact OutN.yes (HM3.out.setCell 8 _) HN.out (by rw [Int.one_mul]; exact Blk.set hr3.out 8 _)
    | false =>
      rw [hE45 rfl] at H45
      clear hE45
      go_enter Tryz.func88, Tryz.ntmps88
      go_wp2_with fail
      refine H43.out.mono ?_
      rintro e w' ⟨rfl, hw⟩
      obtain rfl := hw.symm
      go_wp2_with fail
      refine H45.out.mono ?_
      rintro e w' ⟨rfl, hw⟩
      obtain rfl := hw.symm
      go_wp2_with fail
      refine HSK.out.mono ?_
      rintro e w1 ⟨rfl, hm1, hr1⟩
      have HF1 := hide (HF.out.mv hm1)
      replace hm1 := hide hm1
      replace hr1 := hide hr1
      go_wp2_with fail
      refine (digits_out p b _ (dropF σ) 2 (by decide) HF1.out hr1.out HL.out).mono ?_
      cases hd0 : digitsF 2 0 (dropF σ) with
      | none =>
        rintro e w2 ⟨hm2, rfl⟩
        exact go_panic (fn := Tryz.f88) rfl (OutN.no (hm1.out.trans hm2) (by rw [HZ.out]; simp [zoneD, hd0]))
      | some q0 =>
        obtain ⟨x0, τ0⟩ := q0
        have hx0 : x0 < 100 := (digitsF_len hd0).2
        have HT0 := hide (Nat.le_trans (digitsF_len hd0).1 HL.out)
        have HE0 := hide hd0
        rintro e w2 ⟨hm2, rfl, hr2⟩
        have HM2 := hide (hm1.out.trans hm2)
        have HF2 := hide (HF1.out.mv hm2)
        replace hr2 := hide hr2
        clear hd0 hm2
        go_wp2_with fail
        refine (digits_out p b _ τ0 2 (by decide) HF2.out hr2.out HT0.out).mono ?_
        cases hd1 : digitsF 2 0 τ0 with
        | none =>
          rintro e w3 ⟨hm3, rfl⟩
          exact go_panic (fn := Tryz.f88) rfl (OutN.no (HM2.out.trans hm3) (by rw [HZ.out]; simp [zoneD, HE0.out, hd1]))
        | some q1 =>
          obtain ⟨x1, τ1⟩ := q1
          have hx1 : x1 < 100 := (digitsF_len hd1).2
          have HE1 := hide hd1
          rintro e w3 ⟨hm3, rfl, hr3⟩
          have HM3 := hide (HM2.out.trans hm3)
          have HF3 := hide (HF2.out.mv hm3)
          have hc3 := Blk.cell hr3
          have hf3 := Blk.frozen hr3
          unfold rdr at hc3
          replace hr3 := hide hr3
          clear hd1 hm3
          by_cases hbad : 23 < x0 ∨ 59 < x1
          · have HN : Hid (zoneF σ = none) := by
              show _ = _
              rw [HZ.out]
              simp [zoneD, HE0.out, HE1.out, hbad]
            rcases hbad with hbad | hbad
            · have hb' : (23 : Int) < x0 := by omega
              go_wp2_with fail
              refine (refuse_out _ b p HF3.out).mono ?_
              rintro e w4 ⟨rfl, rfl⟩
              exact go_panic (fn := Tryz.f88) rfl (OutN.no HM3.out HN.out)
            · have hb' : (59 : Int) < x1 := by omega
              by_cases hb2 : (23 : Int) < x0
              · go_wp2_with fail
                refine (refuse_out _ b p HF3.out).mono ?_
                rintro e w4 ⟨rfl, rfl⟩
                exact go_panic (fn := Tryz.f88) rfl (OutN.no HM3.out HN.out)
              · go_wp2_with fail
                refine (refuse_out _ b p HF3.out).mono ?_
                rintro e w4 ⟨rfl, rfl⟩
                exact go_panic (fn := Tryz.f88) rfl (OutN.no HM3.out HN.out)
          · have hb0 : ¬ (23 : Int) < x0 := by omega
            have hb1 : ¬ (59 : Int) < x1 := by omega
            have HN : Hid (zoneF σ = some { τ1 with a := -1 * ((x0 : Int) * 3600 + (x1 : Int) * 60) }) := by
              show _ = _
              rw [HZ.out]
              simp [zoneD, HE0.out, HE1.out, hbad]
            go_wp2
            go_end0
            refine OutN.yes ((HM3.out.setCell 8 _).setCell 8 _) HN.out ?_
            have h1 := Blk.set (Blk.set hr3.out 8 (.int .i64 ((x0 : Int) * 3600 + (x1 : Int) * 60))) 8 (.int .i64 (-((x0 : Int) * 3600 + (x1 : Int) * 60)))
            rw [show (-1 : Int) * ((x0 : Int) * 3600 + (x1 : Int) * 60) = -((x0 : Int) * 3600 + (x1 : Int) * 60) by omega]
            exact h1
  · have h43 : atF 43 σ = false := by
      cases h : atF 43 σ with
      | true => exact absurd (.inl h) hs
      | false => rfl
    have h45 : atF 45 σ = false := by
      cases h : atF 45 σ with
      | true => exact absurd (.inr h) hs
      | false => rfl
    have HN : Hid (zoneF σ = none) := by
      show _ = _
      simp [zoneF, h43, h45]
    rw [h43] at H43
    rw [h45] at H45
    clear k hF hl hs h43 h45
    go_enter Tryz.func88, Tryz.ntmps88
    go_wp2_with fail
    refine H43.out.mono ?_
    rintro e w' ⟨rfl, hw⟩
    obtain rfl := hw.symm
    go_wp2_with fail
    refine H45.out.mono ?_
    rintro e w' ⟨rfl, hw⟩
    obtain rfl := hw.symm
    go_wp2_with fail
    refine (refuse_out _ b p HF.out).mono ?_
    rintro e w4 ⟨rfl, rfl⟩
    exact go_panic (fn := Tryz.f88) rfl (OutN.no (Mv.refl _ _) HN.out)
end
end Go.Proofs.YtcmhaihoeecjoaaGreatDoor.Da

end
section
namespace Go.Proofs.YtcmhaihoeecjoaaGreatDoor.Da
open Go.RowKit
/-- The day: a digit, and another if there is one. -/
def dayF (σ : RS) : Option RS := (digitF σ).bind fun x => if atDigF x.2 then (digitF x.2).map fun z => { z.2 with d := (x.1 : Int) * 10 + z.1 } else some { x.2 with d := x.1 }
/-- The day in two places. -/
def day2F (σ : RS) : Option RS := if atF 32 σ then (digitF (dropF σ)).map fun x => { x.2 with d := x.1 } else if atF 48 σ then none else (digitsF 2 0 σ).map fun x => { x.2 with d := x.1 }
/-- The day of the week, and what stands behind it. -/
def dowF (σ : RS) : Option RS := (nameF wkdB σ).bind fun x => (markF 44 (skipF x.2)).map skipF
theorem digitF_date {σ τ : RS} {n : Nat} (h : digitF σ = some (n, τ)) : τ = { σ with l := τ.l } := by
  unfold digitF at h
  split at h
  · cases h
  · split at h
    · cases h
      rfl
    · cases h
theorem digitF_at {σ : RS} (h : atDigF σ = true) : ∃ n τ, digitF σ = some (n, τ) := by
  unfold atDigF at h
  unfold digitF
  split at h
  · cases h
  · exact ⟨_, _, by simp [h]; exact ⟨rfl, rfl⟩⟩
theorem markF_at {x : Nat} {σ : RS} (h : atF x σ = true) : markF x σ = some (dropF σ) := by
  unfold atF at h
  unfold markF dropF
  split at h
  · cases h
  · next c r hl =>
    simp at h
    simp [h, hl]
theorem skipF_len (σ : RS) : (skipF σ).l.length ≤ σ.l.length := by
  unfold skipF
  exact (List.dropWhile_suffix isBlk).length_le
theorem wrap_i64 (n : Int) (h0 : 0 ≤ n) (h1 : n ≤ 1000000) : IntKind.i64.wrap n = n := by
  simp [IntKind.wrap, IntKind.signed, IntKind.bits]
  split <;> omega
section
variable (p : Addr) (b : Nat) (w : World) (σ : RS)
/-- A digit that is there, and the cells behind it. -/
theorem digit_there (n : Nat) (τ : RS) (hF : EF w b p) (k : RdS w b σ) (hl : σ.l.length ≤ 900) (h : digitF σ = some (n, τ)) : Calls Tryz.prog 108 #[.pointer (some ⟨b, 0, none⟩)] w fun e w' => e = .returned (.int .i64 n) ∧ Mv b w w' ∧ Hid (RdS w' b τ) ∧ (∀ i, w'.cell? ⟨b, i, none⟩ = (rdr τ.l τ.y τ.m τ.d τ.h τ.mi τ.s τ.wk τ.a)[i]?) ∧ ∀ i, w'.frozen? ⟨b, i, none⟩ = false := by
  refine (digit_out p b w σ hF k hl).mono ?_
  rw [h]
  rintro e w' ⟨hm, rfl, hr⟩
  exact ⟨rfl, hm, hr, Blk.cell hr, Blk.frozen hr⟩
set_option linter.unusedSimpArgs false in
set_option maxRecDepth 20000 in
set_option maxHeartbeats 2000000 in
theorem dayInTwoPlaces_out (hF : EF w b p) (k : RdS w b σ) (hl : σ.l.length ≤ 900) : Calls Tryz.prog 82 #[.pointer (some ⟨b, 0, none⟩)] w fun e w' => OutN p b w (day2F σ) e w' := by
  have H32 := hide (at_out b w σ 32 k)
  have H48 := hide (at_out b w σ 48 k)
  have HMK := hide (mark_out p b w σ 32 hF k hl)
  have HDG := hide (digits_out p b w σ 2 (by decide) hF k hl)
  have HF := hide hF
  have HL := hide hl
  clear k hF hl
  cases h32 : atF 32 σ with
  | true =>
    have hmk := markF_at h32
    rw [h32] at H32
    rw [show (32 : UInt8).toNat = 32 from rfl, hmk] at HMK
    have HLd := hide (Nat.le_trans (dropF_len σ) HL.out)
    go_enter Tryz.func82, Tryz.ntmps82
    go_wp2_with fail
    refine H32.out.mono ?_
    rintro e w' ⟨rfl, hw⟩
    obtain rfl := hw.symm
    go_wp2_with fail
    refine HMK.out.mono ?_
    rintro e w1 ⟨hm1, rfl, hr1⟩
    have HF1 := hide (HF.out.mv hm1)
    replace hm1 := hide hm1
    replace hr1 := hide hr1
    go_wp2_with fail
    refine (digit_out p b _ (dropF σ) HF1.out hr1.out HLd.out).mono ?_
    cases hd : digitF (dropF σ) with
    | none =>
      rintro e w2 ⟨hm2, rfl⟩
      exact go_panic (fn := Tryz.f82) rfl (OutN.no (hm1.out.trans hm2) (by simp [day2F, h32, hd]))
    | some x =>
      obtain ⟨n, τ⟩ := x
      have HN : Hid (day2F σ = some { τ with d := (n : Int) }) := by
        show _ = _
        simp [day2F, h32, hd]
      rintro e w2 ⟨hm2, rfl, hr2⟩
      have hc2 := Blk.cell hr2
      have hf2 := Blk.frozen hr2
      unfold rdr at hc2
      have HM2 := hide (hm1.out.trans hm2)
      replace hr2 := hide hr2
      clear hd hm2 h32 hmk
      go_wp2
      go_end0
      exact OutN.yes (HM2.out.setCell 3 _) HN.out (Blk.set hr2.out 3 _)
  | false =>
    rw [h32] at H32
    cases h48 : atF 48 σ with
    | true =>
      have HN : Hid (day2F σ = none) := by
        show _ = _
        simp [day2F, h32, h48]
      rw [h48] at H48
      clear h32 h48
      go_enter Tryz.func82, Tryz.ntmps82
      go_wp2_with fail
      refine H32.out.mono ?_
      rintro e w' ⟨rfl, hw⟩
      obtain rfl := hw.symm
      go_wp2_with fail
      refine H48.out.mono ?_
      rintro e w' ⟨rfl, hw⟩
      obtain rfl := hw.symm
      go_wp2_with fail
      refine (refuse_out _ b p HF.out).mono ?_
      rintro e w4 ⟨rfl, rfl⟩
      exact go_panic (fn := Tryz.f82) rfl (OutN.no (Mv.refl _ _) HN.out)
    | false =>
      rw [h48] at H48
      go_enter Tryz.func82, Tryz.ntmps82
      go_wp2_with fail
      refine H32.out.mono ?_
      rintro e w' ⟨rfl, hw⟩
      obtain rfl := hw.symm
      go_wp2_with fail
      refine H48.out.mono ?_
      rintro e w' ⟨rfl, hw⟩
      obtain rfl := hw.symm
      go_wp2_with fail
      refine HDG.out.mono ?_
      cases hd : digitsF 2 0 σ with
      | none =>
        rintro e w2 ⟨hm2, rfl⟩
        exact go_panic (fn := Tryz.f82) rfl (OutN.no hm2 (by simp [day2F, h32, h48, hd]))
      | some x =>
        obtain ⟨n, τ⟩ := x
        have HN : Hid (day2F σ = some { τ with d := (n : Int) }) := by
          show _ = _
          simp [day2F, h32, h48, hd]
        rintro e w2 ⟨hm2, rfl, hr2⟩
        have hc2 := Blk.cell hr2
        have hf2 := Blk.frozen hr2
        unfold rdr at hc2
        replace hm2 := hide hm2
        replace hr2 := hide hr2
        clear hd h32 h48
        go_wp2
        go_end0
        exact OutN.yes (hm2.out.setCell 3 _) HN.out (Blk.set hr2.out 3 _)
end
end Go.Proofs.YtcmhaihoeecjoaaGreatDoor.Da

end
