/- DiskNames. -/
import Derived.Test.YtpghfaplgkjdkaaDoorD19
namespace Go.Proofs.YtpghfaplgkjdkaaDoor
open Go.RowKit Go.Maps
theorem len_of (x : ByteArray) (h : x.size ≤ maxLen) : x.data.toList.length ≤ maxLen := by
  rw [Array.length_toList]
  exact h
theorem right_len {l : List UInt8} (h : rightB l = true) : l.length ≤ 24 := by
  unfold rightB at h
  simp at h
  exact h.2.2
theorem made_at (l : List UInt8) (f : Nat) : ((emptySt 100).made l f).D.atKey (.string l) .nil = pd f := atKey_put_same (k := .string l) ⟨[], rfl⟩ trivial _ _
set_option maxRecDepth 20000 in
set_option maxHeartbeats 4000000 in
theorem names_walk (l : List UInt8) (w : World) (a : Nat → Addr) (hE : Errs w a) (hl : l.length ≤ maxLen) : Calls Tryd.prog 4 #[.string ⟨l.toArray⟩] w fun e w' => e = .returned (.bool true) ∧ Below w.heap.size w w' := by
  replace hE := hide hE
  go_enter Tryd.func4, Tryd.ntmps4
  go_wp2_with fail
  refine (alive_yes w a hE.out).mono ?_
  rintro e w1 ⟨rfl, hb1⟩
  replace hb1 := hide hb1
  simp only [maxLen] at hl
  by_cases hlong : 200 < l.length
  · have g1 : decide (200 < (l.length : Int)) = true := decide_eq_true (by omega)
    have g2 : 200 < (l.length : Int) := by omega
    go_wp2
    go_ret
    exact ⟨rfl, hb1.out⟩
  have g1 : decide (200 < (l.length : Int)) = false := decide_eq_false (by omega)
  have g2 : ¬ 200 < (l.length : Int) := by omega
  replace hl : l.length ≤ 200 := by omega
  go_wp2_with fail
  refine (new_any w w1 100 (by decide) (by decide) hb1.out).mono ?_
  rintro e w2 ⟨rfl, _, hD2⟩
  replace hD2 := hide hD2
  unfold pv
  clear g1 g2 hlong hb1
  cases hr : rightB l with
  | false =>
    go_wp2_with fail
    refine (create_wrong w w2 _ _ _ a hE.out hD2.out rfl l (by omega) hr).mono ?_
    rintro e w3 ⟨rfl, hb3⟩
    have hD3 := hide (hD2.out.then hb3)
    have hb3' := hide (hD3.out.below)
    have HR := hide (right_any l w3 (by omega))
    rw [hr] at HR
    have HN := hide (num_err 3 (by decide) w3 a (hE.out.below hb3'.out))
    clear hb3 hD2
    unfold errV
    go_wp2_with (first | (go_at_call 12; refine HR.out.mono ?_; rintro e w' ⟨rfl, rfl⟩))
    refine HN.out.mono ?_
    rintro e w4 ⟨rfl, hb4⟩
    have HS := hide (steps_any w w4 _ _ _ (hD3.out.then hb4))
    have HB := hide (hD3.out.then hb4).below
    clear HR HN hb3' hb4 hD3
    unfold pv at HS
    go_wp2_with (go_at_call 13; refine HS.out.mono ?_; rintro e w' ⟨rfl, rfl⟩)
    go_ret
    exact ⟨rfl, HB.out⟩
  | true =>
    have hlen := right_len hr
    go_wp2_with fail
    refine (create_ok w w2 _ _ _ a hE.out hD2.out rfl (by decide) (by decide) (by decide) (by decide) (by decide) (by decide) (by decide) (by decide) (by decide) l hr rfl).mono ?_
    rintro e w3 ⟨rfl, ρ3, f, hD3, _, _⟩
    replace hD3 := hide hD3
    have HR := hide (right_any l w3 (by omega))
    rw [hr] at HR
    clear hD2
    go_wp2_with (first | (go_at_call 12; refine HR.out.mono ?_; rintro e w' ⟨rfl, rfl⟩))
    refine (create_exists w _ _ _ _ a hE.out hD3.out rfl l hr f (made_at l f)).mono ?_
    rintro e w4 ⟨rfl, hb4⟩
    have hD4 := hide (hD3.out.then hb4)
    clear hD3 hb4 HR
    unfold errV
    go_wp2_with fail
    refine (num_err 5 (by decide) w4 a (hE.out.below hD4.out.below)).mono ?_
    rintro e w5 ⟨rfl, hb5⟩
    have HS := hide (steps_any w w5 _ _ _ (hD4.out.then hb5))
    have HB := hide (hD4.out.then hb5).below
    clear hb5 hD4
    unfold pv at HS
    go_wp2_with (go_at_call 13; refine HS.out.mono ?_; rintro e w' ⟨rfl, rfl⟩)
    go_ret
    exact ⟨rfl, HB.out⟩
end Go.Proofs.YtpghfaplgkjdkaaDoor
