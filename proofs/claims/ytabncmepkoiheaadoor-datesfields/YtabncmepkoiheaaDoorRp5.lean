/- The reader of package dates, whatever the text: the zone, the day, the day of the week. -/
import Derived.Test.YtabncmepkoiheaaDoorRp4
import Derived.Deep.RegionWith
namespace Go.Proofs.YtabncmepkoiheaaDoor
open Go.RowKit
/-- The zone's digits, behind its sign. -/
def zoneD (g : Int) (σ : RS) : Option RS := (digitsF 2 0 σ).bind fun x => (digitsF 2 0 x.2).bind fun z => if 23 < x.1 ∨ 59 < z.1 then none else some { z.2 with a := g * ((x.1 : Int) * 3600 + (z.1 : Int) * 60) }
def zoneF (σ : RS) : Option RS := if atF 43 σ then zoneD 1 (dropF σ) else if atF 45 σ then zoneD (-1) (dropF σ) else none
theorem atF_ne {x : Nat} {σ : RS} (h : atF x σ = true) : σ.l ≠ [] := by
  intro e
  unfold atF at h
  rw [e] at h
  cases h
theorem dropF_len (σ : RS) : (dropF σ).l.length ≤ σ.l.length := by simp [dropF]
section
variable (p : Addr) (b : Nat) (w : World) (σ : RS)
set_option linter.unusedSimpArgs false in
set_option maxRecDepth 20000 in
set_option maxHeartbeats 2000000 in
theorem zone_out (hF : EF w b p) (k : RdS w b σ) (hl : σ.l.length ≤ 900) : Calls Tryd.prog 23 #[.pointer (some ⟨b, 0, none⟩)] w fun e w' => OutN p b w (zoneF σ) e w' := by
  have H43 := hide (at_out b w σ 43 k)
  have H45 := hide (at_out b w σ 45 k)
  have HF := hide hF
  by_cases hs : atF 43 σ = true ∨ atF 45 σ = true
  · have hne : σ.l ≠ [] := hs.elim atF_ne atF_ne
    have HSK := hide (skip1_out b w σ k hne hl)
    have HL := hide (Nat.le_trans (dropF_len σ) hl)
    clear k hF hl hne
    obtain ⟨east, hZ, hE43, hE45⟩ : ∃ east : Bool, zoneF σ = zoneD (if east then 1 else -1) (dropF σ) ∧ atF 43 σ = east ∧ (east = false → atF 45 σ = true) := by
      cases h1 : atF 43 σ with
      | true => exact ⟨true, by simp [zoneF, h1], rfl, fun h => by cases h⟩
      | false =>
        have h2 : atF 45 σ = true := hs.resolve_left (by rw [h1]; simp)
        exact ⟨false, by simp [zoneF, h1, h2], rfl, fun _ => h2⟩
    have HZ := hide hZ
    rw [hE43] at H43
    clear hZ hs hE43
    cases east with
    | true =>
      go_enter Tryd.func23, Tryd.ntmps23
      go_wp2_with fail
      refine H43.out.mono ?_
      rintro e w' ⟨rfl, hw⟩
      obtain rfl := hw.symm
      go_wp2_with fail
      refine HSK.out.mono ?_
      rintro e w1 ⟨rfl, hm1, hr1⟩
      have HF1 := hide (HF.out.mv hm1)
      replace hm1 := hide hm1
      replace hr1 := hide hr1
      go_wp2_with fail
      refine (digits_out p b _ (dropF σ) 2 (by decide) HF1.out hr1.out HL.out).mono ?_
      cases hd0 : digitsF 2 0 (dropF σ) with
      | none =>
        rintro e w2 ⟨hm2, rfl⟩
        exact go_panic (fn := Tryd.f23) rfl (OutN.no (hm1.out.trans hm2) (by rw [HZ.out]; simp [zoneD, hd0]))
      | some q0 =>
        obtain ⟨x0, τ0⟩ := q0
        have hx0 : x0 < 100 := (digitsF_len hd0).2
        have HT0 := hide (Nat.le_trans (digitsF_len hd0).1 HL.out)
        have HE0 := hide hd0
        rintro e w2 ⟨hm2, rfl, hr2⟩
        have HM2 := hide (hm1.out.trans hm2)
        have HF2 := hide (HF1.out.mv hm2)
        replace hr2 := hide hr2
        clear hd0 hm2
        go_wp2_with fail
        refine (digits_out p b _ τ0 2 (by decide) HF2.out hr2.out HT0.out).mono ?_
        cases hd1 : digitsF 2 0 τ0 with
        | none =>
          rintro e w3 ⟨hm3, rfl⟩
          exact go_panic (fn := Tryd.f23) rfl (OutN.no (HM2.out.trans hm3) (by rw [HZ.out]; simp [zoneD, HE0.out, hd1]))
        | some q1 =>
          obtain ⟨x1, τ1⟩ := q1
          have hx1 : x1 < 100 := (digitsF_len hd1).2
          have HE1 := hide hd1
          rintro e w3 ⟨hm3, rfl, hr3⟩
          have HM3 := hide (HM2.out.trans hm3)
          have HF3 := hide (HF2.out.mv hm3)
          have hc3 := Blk.cell hr3
          have hf3 := Blk.frozen hr3
          unfold rdr at hc3
          replace hr3 := hide hr3
          clear hd1 hm3
          by_cases hbad : 23 < x0 ∨ 59 < x1
          · have HN : Hid (zoneF σ = none) := by
              show _ = _
              rw [HZ.out]
              simp [zoneD, HE0.out, HE1.out, hbad]
            rcases hbad with hbad | hbad
            · have hb' : (23 : Int) < x0 := by omega
              go_wp2_with fail
              refine (refuse_out _ b p HF3.out).mono ?_
              rintro e w4 ⟨rfl, rfl⟩
              exact go_panic (fn := Tryd.f23) rfl (OutN.no HM3.out HN.out)
            · have hb' : (59 : Int) < x1 := by omega
              by_cases hb2 : (23 : Int) < x0
              · go_wp2_with fail
                refine (refuse_out _ b p HF3.out).mono ?_
                rintro e w4 ⟨rfl, rfl⟩
                exact go_panic (fn := Tryd.f23) rfl (OutN.no HM3.out HN.out)
              · go_wp2_with fail
                refine (refuse_out _ b p HF3.out).mono ?_
                rintro e w4 ⟨rfl, rfl⟩
                exact go_panic (fn := Tryd.f23) rfl (OutN.no HM3.out HN.out)
          · have hb0 : ¬ (23 : Int) < x0 := by omega
            have hb1 : ¬ (59 : Int) < x1 := by omega
            have HN : Hid (zoneF σ = some { τ1 with a := 1 * ((x0 : Int) * 3600 + (x1 : Int) * 60) }) := by
              show _ = _
              rw [HZ.out]
              simp [zoneD, HE0.out, HE1.out, hbad]
            go_wp2
            go_end0
            exact OutN.yes (HM3.out.setCell 8 _) HN.out (by rw [Int.one_mul]; exact Blk.set hr3.out 8 _)
    | false =>
      rw [hE45 rfl] at H45
      clear hE45
      go_enter Tryd.func23, Tryd.ntmps23
      go_wp2_with fail
      refine H43.out.mono ?_
      rintro e w' ⟨rfl, hw⟩
      obtain rfl := hw.symm
      go_wp2_with fail
      refine H45.out.mono ?_
      rintro e w' ⟨rfl, hw⟩
      obtain rfl := hw.symm
      go_wp2_with fail
      refine HSK.out.mono ?_
      rintro e w1 ⟨rfl, hm1, hr1⟩
      have HF1 := hide (HF.out.mv hm1)
      replace hm1 := hide hm1
      replace hr1 := hide hr1
      go_wp2_with fail
      refine (digits_out p b _ (dropF σ) 2 (by decide) HF1.out hr1.out HL.out).mono ?_
      cases hd0 : digitsF 2 0 (dropF σ) with
      | none =>
        rintro e w2 ⟨hm2, rfl⟩
        exact go_panic (fn := Tryd.f23) rfl (OutN.no (hm1.out.trans hm2) (by rw [HZ.out]; simp [zoneD, hd0]))
      | some q0 =>
        obtain ⟨x0, τ0⟩ := q0
        have hx0 : x0 < 100 := (digitsF_len hd0).2
        have HT0 := hide (Nat.le_trans (digitsF_len hd0).1 HL.out)
        have HE0 := hide hd0
        rintro e w2 ⟨hm2, rfl, hr2⟩
        have HM2 := hide (hm1.out.trans hm2)
        have HF2 := hide (HF1.out.mv hm2)
        replace hr2 := hide hr2
        clear hd0 hm2
        go_wp2_with fail
        refine (digits_out p b _ τ0 2 (by decide) HF2.out hr2.out HT0.out).mono ?_
        cases hd1 : digitsF 2 0 τ0 with
        | none =>
          rintro e w3 ⟨hm3, rfl⟩
          exact go_panic (fn := Tryd.f23) rfl (OutN.no (HM2.out.trans hm3) (by rw [HZ.out]; simp [zoneD, HE0.out, hd1]))
        | some q1 =>
          obtain ⟨x1, τ1⟩ := q1
          have hx1 : x1 < 100 := (digitsF_len hd1).2
          have HE1 := hide hd1
          rintro e w3 ⟨hm3, rfl, hr3⟩
          have HM3 := hide (HM2.out.trans hm3)
          have HF3 := hide (HF2.out.mv hm3)
          have hc3 := Blk.cell hr3
          have hf3 := Blk.frozen hr3
          unfold rdr at hc3
          replace hr3 := hide hr3
          clear hd1 hm3
          by_cases hbad : 23 < x0 ∨ 59 < x1
          · have HN : Hid (zoneF σ = none) := by
              show _ = _
              rw [HZ.out]
              simp [zoneD, HE0.out, HE1.out, hbad]
            rcases hbad with hbad | hbad
            · have hb' : (23 : Int) < x0 := by omega
              go_wp2_with fail
              refine (refuse_out _ b p HF3.out).mono ?_
              rintro e w4 ⟨rfl, rfl⟩
              exact go_panic (fn := Tryd.f23) rfl (OutN.no HM3.out HN.out)
            · have hb' : (59 : Int) < x1 := by omega
              by_cases hb2 : (23 : Int) < x0
              · go_wp2_with fail
                refine (refuse_out _ b p HF3.out).mono ?_
                rintro e w4 ⟨rfl, rfl⟩
                exact go_panic (fn := Tryd.f23) rfl (OutN.no HM3.out HN.out)
              · go_wp2_with fail
                refine (refuse_out _ b p HF3.out).mono ?_
                rintro e w4 ⟨rfl, rfl⟩
                exact go_panic (fn := Tryd.f23) rfl (OutN.no HM3.out HN.out)
          · have hb0 : ¬ (23 : Int) < x0 := by omega
            have hb1 : ¬ (59 : Int) < x1 := by omega
            have HN : Hid (zoneF σ = some { τ1 with a := -1 * ((x0 : Int) * 3600 + (x1 : Int) * 60) }) := by
              show _ = _
              rw [HZ.out]
              simp [zoneD, HE0.out, HE1.out, hbad]
            go_wp2
            go_end0
            refine OutN.yes ((HM3.out.setCell 8 _).setCell 8 _) HN.out ?_
            have h1 := Blk.set (Blk.set hr3.out 8 (.int .i64 ((x0 : Int) * 3600 + (x1 : Int) * 60))) 8 (.int .i64 (-((x0 : Int) * 3600 + (x1 : Int) * 60)))
            rw [show (-1 : Int) * ((x0 : Int) * 3600 + (x1 : Int) * 60) = -((x0 : Int) * 3600 + (x1 : Int) * 60) by omega]
            exact h1
  · have h43 : atF 43 σ = false := by
      cases h : atF 43 σ with
      | true => exact absurd (.inl h) hs
      | false => rfl
    have h45 : atF 45 σ = false := by
      cases h : atF 45 σ with
      | true => exact absurd (.inr h) hs
      | false => rfl
    have HN : Hid (zoneF σ = none) := by
      show _ = _
      simp [zoneF, h43, h45]
    rw [h43] at H43
    rw [h45] at H45
    clear k hF hl hs h43 h45
    go_enter Tryd.func23, Tryd.ntmps23
    go_wp2_with fail
    refine H43.out.mono ?_
    rintro e w' ⟨rfl, hw⟩
    obtain rfl := hw.symm
    go_wp2_with fail
    refine H45.out.mono ?_
    rintro e w' ⟨rfl, hw⟩
    obtain rfl := hw.symm
    go_wp2_with fail
    refine (refuse_out _ b p HF.out).mono ?_
    rintro e w4 ⟨rfl, rfl⟩
    exact go_panic (fn := Tryd.f23) rfl (OutN.no (Mv.refl _ _) HN.out)
end
end Go.Proofs.YtabncmepkoiheaaDoor
