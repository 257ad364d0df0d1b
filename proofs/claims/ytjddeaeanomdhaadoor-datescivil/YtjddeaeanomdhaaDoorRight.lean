/- Which dates are right, by the program. -/
import Derived.Test.YtjddeaeanomdhaaDoorCiv2
namespace Go.Proofs.YtjddeaeanomdhaaDoor
open Go.RowKit

def rightB (y m d h mi s : Int) : Bool := btw y 1970 2099 && (btw m 1 12 && (btw d 1 (Cal.dim y m) && (btw h 0 23 && (btw mi 0 59 && btw s 0 59))))

set_option maxHeartbeats 4000000 in
theorem right_any (y m d h mi s wk : Int) (w : World) :
    Calls Tryd.prog 33 #[.agg #[.int .i64 y, .int .i64 m, .int .i64 d, .int .i64 h, .int .i64 mi, .int .i64 s, .int .i64 wk]] w fun e w' => e = .returned (.bool (rightB y m d h mi s)) ∧ Below w.heap.size w w' := by
  cases h1 : btw y 1970 2099
  · have HR : Hid (rightB y m d h mi s = false) := by unfold rightB; rw [h1]; rfl
    go_enter Tryd.func33, Tryd.ntmps33
    go_wp2
    go_quiet ((first | (go_at_call 66; exact Calls.quiet_of_same (between_any _ _ _ _)) | (go_at_call 68; exact Calls.quiet_of_same (days_any _ _ _))))
    go_wp2
    go_ret
    exact ⟨ret_bool HR.out.symm, below_drewN ((Below.refl _ _).alloc (Nat.le_refl _) _) _⟩
  · skip
    cases h2 : btw m 1 12
    · have HR : Hid (rightB y m d h mi s = false) := by unfold rightB; rw [h1, h2]; rfl
      go_enter Tryd.func33, Tryd.ntmps33
      go_wp2
      go_quiet ((first | (go_at_call 66; exact Calls.quiet_of_same (between_any _ _ _ _)) | (go_at_call 68; exact Calls.quiet_of_same (days_any _ _ _))))
      go_wp2
      go_ret
      exact ⟨ret_bool HR.out.symm, below_drewN ((Below.refl _ _).alloc (Nat.le_refl _) _) _⟩
    · skip
      cases h3 : btw d 1 (Cal.dim y m)
      · have HR : Hid (rightB y m d h mi s = false) := by unfold rightB; rw [h1, h2, h3]; rfl
        go_enter Tryd.func33, Tryd.ntmps33
        go_wp2
        go_quiet ((first | (go_at_call 66; exact Calls.quiet_of_same (between_any _ _ _ _)) | (go_at_call 68; exact Calls.quiet_of_same (days_any _ _ _))))
        go_wp2
        go_ret
        exact ⟨ret_bool HR.out.symm, below_drewN ((Below.refl _ _).alloc (Nat.le_refl _) _) _⟩
      · skip
        cases h4 : btw h 0 23
        · have HR : Hid (rightB y m d h mi s = false) := by unfold rightB; rw [h1, h2, h3, h4]; rfl
          go_enter Tryd.func33, Tryd.ntmps33
          go_wp2
          go_quiet ((first | (go_at_call 66; exact Calls.quiet_of_same (between_any _ _ _ _)) | (go_at_call 68; exact Calls.quiet_of_same (days_any _ _ _))))
          go_wp2
          go_ret
          exact ⟨ret_bool HR.out.symm, below_drewN ((Below.refl _ _).alloc (Nat.le_refl _) _) _⟩
        · skip
          cases h5 : btw mi 0 59
          · have HR : Hid (rightB y m d h mi s = false) := by unfold rightB; rw [h1, h2, h3, h4, h5]; rfl
            go_enter Tryd.func33, Tryd.ntmps33
            go_wp2
            go_quiet ((first | (go_at_call 66; exact Calls.quiet_of_same (between_any _ _ _ _)) | (go_at_call 68; exact Calls.quiet_of_same (days_any _ _ _))))
            go_wp2
            go_ret
            exact ⟨ret_bool HR.out.symm, below_drewN ((Below.refl _ _).alloc (Nat.le_refl _) _) _⟩
          · skip
            cases h6 : btw s 0 59
            · have HR : Hid (rightB y m d h mi s = false) := by unfold rightB; rw [h1, h2, h3, h4, h5, h6]; rfl
              go_enter Tryd.func33, Tryd.ntmps33
              go_wp2
              go_quiet ((first | (go_at_call 66; exact Calls.quiet_of_same (between_any _ _ _ _)) | (go_at_call 68; exact Calls.quiet_of_same (days_any _ _ _))))
              go_wp2
              go_ret
              exact ⟨ret_bool HR.out.symm, below_drewN ((Below.refl _ _).alloc (Nat.le_refl _) _) _⟩
            · have HR : Hid (rightB y m d h mi s = true) := by unfold rightB; rw [h1, h2, h3, h4, h5, h6]; rfl
              go_enter Tryd.func33, Tryd.ntmps33
              go_wp2
              go_quiet ((first | (go_at_call 66; exact Calls.quiet_of_same (between_any _ _ _ _)) | (go_at_call 68; exact Calls.quiet_of_same (days_any _ _ _))))
              go_wp2
              go_ret
              exact ⟨ret_bool HR.out.symm, below_drewN ((Below.refl _ _).alloc (Nat.le_refl _) _) _⟩
end Go.Proofs.YtjddeaeanomdhaaDoor
