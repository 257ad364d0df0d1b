/- Which dates are right, by the program. -/
import Derived.Test.YtcmhaihoeecjoaaGreatDoorU13
import Derived.Test.YtcmhaihoeecjoaaGreatDoorU01
import Derived.WalkSmall
import Derived.Deep.QuietTactic
import Derived.BigQuiet
namespace Go.Proofs.YtcmhaihoeecjoaaGreatDoor.Da
open Go.RowKit

def rightB (y m d h mi s : Int) : Bool := btw y 1970 2099 && (btw m 1 12 && (btw d 1 (Cal.dim y m) && (btw h 0 23 && (btw mi 0 59 && btw s 0 59))))

set_option maxHeartbeats 4000000 in
theorem right_any (y m d h mi s wk : Int) (w : World) :
    Calls Tryz.prog 134 #[.agg #[.int .i64 y, .int .i64 m, .int .i64 d, .int .i64 h, .int .i64 mi, .int .i64 s, .int .i64 wk]] w fun e w' => e = .returned (.bool (rightB y m d h mi s)) ∧ Below w.heap.size w w' := by
  cases h1 : btw y 1970 2099
  · have HR : Hid (rightB y m d h mi s = false) := by unfold rightB; rw [h1]; rfl
    go_enter Tryz.func134, Tryz.ntmps134
    go_wp2
    go_quiet ((first | (go_at_call 129; exact Calls.quiet_of_same (between_any _ _ _ _)) | (go_at_call 131; exact Calls.quiet_of_same (days_any _ _ _))))
    go_wp2
    go_ret
    exact ⟨ret_bool HR.out.symm, below_drewN ((Below.refl _ _).alloc (Nat.le_refl _) _) _⟩
  · skip
    cases h2 : btw m 1 12
    · have HR : Hid (rightB y m d h mi s = false) := by unfold rightB; rw [h1, h2]; rfl
      go_enter Tryz.func134, Tryz.ntmps134
      go_wp2
      go_quiet ((first | (go_at_call 129; exact Calls.quiet_of_same (between_any _ _ _ _)) | (go_at_call 131; exact Calls.quiet_of_same (days_any _ _ _))))
      go_wp2
      go_ret
      exact ⟨ret_bool HR.out.symm, below_drewN ((Below.refl _ _).alloc (Nat.le_refl _) _) _⟩
    · skip
      cases h3 : btw d 1 (Cal.dim y m)
      · have HR : Hid (rightB y m d h mi s = false) := by unfold rightB; rw [h1, h2, h3]; rfl
        go_enter Tryz.func134, Tryz.ntmps134
        go_wp2
        go_quiet ((first | (go_at_call 129; exact Calls.quiet_of_same (between_any _ _ _ _)) | (go_at_call 131; exact Calls.quiet_of_same (days_any _ _ _))))
        go_wp2
        go_ret
        exact ⟨ret_bool HR.out.symm, below_drewN ((Below.refl _ _).alloc (Nat.le_refl _) _) _⟩
      · skip
        cases h4 : btw h 0 23
        · have HR : Hid (rightB y m d h mi s = false) := by unfold rightB; rw [h1, h2, h3, h4]; rfl
          go_enter Tryz.func134, Tryz.ntmps134
          go_wp2
          go_quiet ((first | (go_at_call 129; exact Calls.quiet_of_same (between_any _ _ _ _)) | (go_at_call 131; exact Calls.quiet_of_same (days_any _ _ _))))
          go_wp2
          go_ret
          exact ⟨ret_bool HR.out.symm, below_drewN ((Below.refl _ _).alloc (Nat.le_refl _) _) _⟩
        · skip
          cases h5 : btw mi 0 59
          · have HR : Hid (rightB y m d h mi s = false) := by unfold rightB; rw [h1, h2, h3, h4, h5]; rfl
            go_enter Tryz.func134, Tryz.ntmps134
            go_wp2
            go_quiet ((first | (go_at_call 129; exact Calls.quiet_of_same (between_any _ _ _ _)) | (go_at_call 131; exact Calls.quiet_of_same (days_any _ _ _))))
            go_wp2
            go_ret
            exact ⟨ret_bool HR.out.symm, below_drewN ((Below.refl _ _).alloc (Nat.le_refl _) _) _⟩
          · skip
            cases h6 : btw s 0 59
            · have HR : Hid (rightB y m d h mi s = false) := by unfold rightB; rw [h1, h2, h3, h4, h5, h6]; rfl
              go_enter Tryz.func134, Tryz.ntmps134
              go_wp2
              go_quiet ((first | (go_at_call 129; exact Calls.quiet_of_same (between_any _ _ _ _)) | (go_at_call 131; exact Calls.quiet_of_same (days_any _ _ _))))
              go_wp2
              go_ret
              exact ⟨ret_bool HR.out.symm, below_drewN ((Below.refl _ _).alloc (Nat.le_refl _) _) _⟩
            · have HR : Hid (rightB y m d h mi s = true) := by unfold rightB; rw [h1, h2, h3, h4, h5, h6]; rfl
              go_enter Tryz.func134, Tryz.ntmps134
              go_wp2
              go_quiet ((first | (go_at_call 129; exact Calls.quiet_of_same (between_any _ _ _ _)) | (go_at_call 131; exact Calls.quiet_of_same (days_any _ _ _))))
              go_wp2
              go_ret
              exact ⟨ret_bool HR.out.symm, below_drewN ((Below.refl _ _).alloc (Nat.le_refl _) _) _⟩

theorem right_yes {y m d h mi s : Int} (y1 : 1970 ≤ y) (y2 : y ≤ 2099) (m1 : 1 ≤ m) (m2 : m ≤ 12) (d1 : 1 ≤ d) (d2 : d ≤ Cal.dim y m) (a1 : 0 ≤ h) (a2 : h ≤ 23) (b1 : 0 ≤ mi) (b2 : mi ≤ 59) (c1 : 0 ≤ s) (c2 : s ≤ 59) : rightB y m d h mi s = true := by
  unfold rightB
  rw [btw_mk y1 y2, btw_mk m1 m2, btw_mk d1 d2, btw_mk a1 a2, btw_mk b1 b2, btw_mk c1 c2]; rfl
theorem right_spec {y m d h mi s : Int} (k : rightB y m d h mi s = true) : 1970 ≤ y ∧ y ≤ 2099 ∧ 1 ≤ m ∧ m ≤ 12 ∧ 1 ≤ d ∧ d ≤ Cal.dim y m ∧ 0 ≤ h ∧ h ≤ 23 ∧ 0 ≤ mi ∧ mi ≤ 59 ∧ 0 ≤ s ∧ s ≤ 59 := by
  unfold rightB at k
  simp only [Bool.and_eq_true] at k
  obtain ⟨k1, k2, k3, k4, k5, k6⟩ := k
  have := btw_true k1
  have := btw_true k2
  have := btw_true k3
  have := btw_true k4
  have := btw_true k5
  have := btw_true k6
  omega
theorem right_no {y m d h mi s : Int} (k : ¬ (1970 ≤ y ∧ y ≤ 2099 ∧ 1 ≤ d ∧ d ≤ Cal.dim y m ∧ 0 ≤ h ∧ h ≤ 23 ∧ 0 ≤ mi ∧ mi ≤ 59 ∧ 0 ≤ s ∧ s ≤ 59)) : rightB y m d h mi s = false := by
  cases e : rightB y m d h mi s
  · rfl
  · have := right_spec e
    exact absurd (by omega) k
theorem right_month {y m d : Int} (d1 : 1 ≤ d) (d2 : d ≤ Cal.dim y m) : 1 ≤ m ∧ m ≤ 12 := by
  rcases Classical.em (1 ≤ m ∧ m ≤ 12) with h | h
  · exact h
  · have : Cal.dim y m = 0 := by unfold Cal.dim; rw [if_neg (by omega), if_neg (by omega), if_neg h]
    omega
end Go.Proofs.YtcmhaihoeecjoaaGreatDoor.Da
