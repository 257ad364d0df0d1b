/- The reader of package dates, whatever the text: blanks, the end, the zone. -/
import Derived.Test.YtabncmepkoiheaaDoorRp3
namespace Go.Proofs.YtabncmepkoiheaaDoor
open Go.RowKit
def isBlk (c : UInt8) : Bool := decide (c.toNat = 32) || decide (c.toNat = 9)
def blankF (σ : RS) : Bool := atF 32 σ || atF 9 σ
def dropF (σ : RS) : RS := { σ with l := σ.l.drop 1 }
def skipF (σ : RS) : RS := { σ with l := σ.l.dropWhile isBlk }
def blanksF (σ : RS) : Option RS := if blankF σ then some (skipF σ) else none
def endF (σ : RS) : Option RS := if σ.l = [] then some σ else none
def lenAt (b : Nat) (w : World) : Nat := match w.cell? ⟨b, 0, none⟩ with
  | some (.string s) => s.size
  | _ => 0
theorem lenAt_rd {w : World} {b : Nat} {σ : RS} (h : RdS w b σ) : lenAt b w = σ.l.length := by
  unfold lenAt
  rw [Blk.cell h]
  simp [rdr, ByteArray.size]
section
variable (p : Addr) (b : Nat) (w : World) (σ : RS)
theorem skip1_out (k : RdS w b σ) (hne : σ.l ≠ []) (hl : σ.l.length ≤ 900) : Calls Tryd.prog 47 #[.pointer (some ⟨b, 0, none⟩), .int .i64 1] w fun e w' => e = .returned (.tuple #[]) ∧ Mv b w w' ∧ RdS w' b (dropF σ) := by
  obtain ⟨l, y, m, d, h, mi, s, wk, a⟩ := σ
  cases l with
  | nil => exact absurd rfl hne
  | cons c r => exact skip1 b c r y m d h mi s wk a w k (by simp at hl; omega)
set_option maxHeartbeats 1000000 in
theorem atBlank_out (k : RdS w b σ) : Calls Tryd.prog 53 #[.pointer (some ⟨b, 0, none⟩)] w fun e w' => e = .returned (.bool (blankF σ)) ∧ w' = w := by
  have H32 := hide (at_out b w σ 32 k)
  have H9 := hide (at_out b w σ 9 k)
  clear k
  unfold blankF
  cases h1 : atF 32 σ with
  | true =>
    rw [h1] at H32
    go_enter Tryd.func53, Tryd.ntmps53
    go_wp2_with fail
    refine H32.out.mono ?_
    rintro e w' ⟨rfl, hw⟩
    obtain rfl := hw.symm
    go_wp2
    go_ret
    exact ⟨rfl, rfl⟩
  | false =>
    rw [h1] at H32
    go_enter Tryd.func53, Tryd.ntmps53
    go_wp2_with fail
    refine H32.out.mono ?_
    rintro e w' ⟨rfl, hw⟩
    obtain rfl := hw.symm
    go_wp2_with fail
    refine H9.out.mono ?_
    rintro e w' ⟨rfl, hw⟩
    obtain rfl := hw.symm
    go_wp2
    go_ret
    exact ⟨by simp, rfl⟩
theorem blankF_cons {c : UInt8} {r : List UInt8} (h : σ.l = c :: r) : blankF σ = isBlk c := by
  unfold blankF atF isBlk
  rw [h]
theorem skipF_step (h : blankF σ = true) : skipF (dropF σ) = skipF σ ∧ σ.l ≠ [] := by
  obtain ⟨l, y, m, d, h', mi, s, wk, a⟩ := σ
  cases l with
  | nil => cases h
  | cons c r =>
    rw [blankF_cons _ rfl] at h
    refine ⟨?_, by simp⟩
    unfold skipF dropF
    simp [h]
theorem skipF_end (h : blankF σ = false) : skipF σ = σ := by
  obtain ⟨l, y, m, d, h', mi, s, wk, a⟩ := σ
  cases l with
  | nil => rfl
  | cons c r =>
    rw [blankF_cons _ rfl] at h
    unfold skipF
    simp [h]
set_option maxRecDepth 20000 in
set_option maxHeartbeats 1000000 in
theorem skipBlanks_out (k : RdS w b σ) (hl : σ.l.length ≤ 900) : Calls Tryd.prog 33 #[.pointer (some ⟨b, 0, none⟩)] w fun e w' => e = .returned (.tuple #[]) ∧ Mv b w w' ∧ RdS w' b (skipF σ) := by
  have K := hide k
  have HL0 := hide hl
  clear k hl
  go_enter Tryd.func33, Tryd.ntmps33
  go_wp2
  go_loopw [2] (fun _ wr => ∃ τ : RS, Hid (Mv b w wr) ∧ Hid (RdS wr b τ) ∧ Hid (τ.l.length ≤ 900) ∧ Hid (skipF τ = skipF σ)) (fun _ wr => lenAt b wr)
  case atStart => exact ⟨σ, Mv.refl _ _, K, HL0, rfl⟩
  case round =>
    obtain ⟨τ, HM, HR, HL, HS⟩ := hrel
    go_wp2_with fail
    refine (atBlank_out b _ τ HR.out).mono ?_
    cases hb : blankF τ with
    | true =>
      have hst := skipF_step τ hb
      rintro e w1 ⟨rfl, hw⟩
      obtain rfl := hw.symm
      go_wp2_with fail
      refine (skip1_out b _ τ HR.out hst.2 HL.out).mono ?_
      rintro e w1 ⟨rfl, hm1, hr1⟩
      have HMM : Hid (lenAt b w1 < lenAt b wr) := by
        show _ < _
        rw [lenAt_rd hr1, lenAt_rd HR.out]
        have := List.length_pos_iff.2 hst.2
        simp [dropF]
        omega
      have HST := hide hst.1
      replace hm1 := hide hm1
      replace hr1 := hide hr1
      clear hst hb
      go_wp2
      go_roundw
      case rel => exact ⟨dropF τ, HM.out.trans hm1.out, hr1, by have := HL.out; show (τ.l.drop 1).length ≤ 900; rw [List.length_drop]; omega, HST.out.trans HS.out⟩
      case measure => exact HMM.out
    | false =>
      have HE := hide (skipF_end τ hb)
      rintro e w1 ⟨rfl, hw⟩
      obtain rfl := hw.symm
      clear hb
      go_wp2
      go_end0
      exact ⟨rfl, HM.out, by rw [← HS.out, HE.out]; exact HR.out⟩
set_option maxHeartbeats 1000000 in
theorem blanks_out (hF : EF w b p) (k : RdS w b σ) (hl : σ.l.length ≤ 900) : Calls Tryd.prog 36 #[.pointer (some ⟨b, 0, none⟩)] w fun e w' => OutN p b w (blanksF σ) e w' := by
  have HA := hide (atBlank_out b w σ k)
  have HS := hide (skipBlanks_out b w σ k hl)
  have HF := hide hF
  clear k hF
  cases hb : blankF σ with
  | true =>
    have HE : Hid (blanksF σ = some (skipF σ)) := by
      show _ = _
      unfold blanksF
      rw [hb]
      rfl
    rw [hb] at HA
    go_enter Tryd.func36, Tryd.ntmps36
    go_wp2_with fail
    refine HA.out.mono ?_
    rintro e w1 ⟨rfl, hw⟩
    obtain rfl := hw.symm
    go_wp2_with fail
    refine HS.out.mono ?_
    rintro e w1 ⟨rfl, hm1, hr1⟩
    replace hm1 := hide hm1
    replace hr1 := hide hr1
    go_wp2
    go_end0
    exact OutN.yes hm1.out HE.out hr1.out
  | false =>
    have HE : Hid (blanksF σ = none) := by
      show _ = _
      unfold blanksF
      rw [hb]
      rfl
    rw [hb] at HA
    go_enter Tryd.func36, Tryd.ntmps36
    go_wp2_with fail
    refine HA.out.mono ?_
    rintro e w1 ⟨rfl, hw⟩
    obtain rfl := hw.symm
    go_wp2_with fail
    refine (refuse_out _ b p HF.out).mono ?_
    rintro e w1 ⟨rfl, rfl⟩
    exact go_panic (fn := Tryd.f36) rfl (OutN.no (Mv.refl _ _) HE.out)
set_option maxHeartbeats 1000000 in
theorem end_out (hF : EF w b p) (k : RdS w b σ) : Calls Tryd.prog 42 #[.pointer (some ⟨b, 0, none⟩)] w fun e w' => OutN p b w (endF σ) e w' := by
  have K := hide k
  have HF := hide hF
  have hc := Blk.cell k
  unfold rdr at hc
  clear k hF
  by_cases h0 : σ.l = []
  · have HE : Hid (endF σ = some σ) := by
      show _ = _
      unfold endF
      rw [if_pos h0]
    rw [h0] at hc
    go_enter Tryd.func42, Tryd.ntmps42
    go_wp2
    go_end0
    exact OutN.yes (Mv.refl _ _) HE.out K.out
  · have HE : Hid (endF σ = none) := by
      show _ = _
      unfold endF
      rw [if_neg h0]
    have hE : σ.l.isEmpty = false := by
      cases hh : σ.l with
      | nil => exact absurd hh h0
      | cons _ _ => rfl
    go_enter Tryd.func42, Tryd.ntmps42
    go_wp2_with fail
    refine (refuse_out _ b p HF.out).mono ?_
    rintro e w1 ⟨rfl, rfl⟩
    exact go_panic (fn := Tryd.f42) rfl (OutN.no (Mv.refl _ _) HE.out)
end
end Go.Proofs.YtabncmepkoiheaaDoor
