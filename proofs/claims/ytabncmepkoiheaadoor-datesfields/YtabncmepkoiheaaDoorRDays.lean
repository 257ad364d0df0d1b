/- The document's days of a month. -/
import Derived.Test.YtabncmepkoiheaaDoorCivil
namespace Go.Proofs.YtabncmepkoiheaaDoor
open Go.RowKit

set_option maxHeartbeats 1000000 in
theorem rdays_any (y m : Int) (w : World) :
    Calls Tryd.prog 60 #[.int .i64 y, .int .i64 m] w fun e w' => e = .returned (.int .i64 (Cal.dim y m)) ∧ Below w.heap.size w w' := by
  by_cases hm : 1 ≤ m ∧ m ≤ 12
  · have h : m = 1 ∨ m = 2 ∨ m = 3 ∨ m = 4 ∨ m = 5 ∨ m = 6 ∨ m = 7 ∨ m = 8 ∨ m = 9 ∨ m = 10 ∨ m = 11 ∨ m = 12 := by omega
    clear hm
    rcases h with rfl | rfl | rfl | rfl | rfl | rfl | rfl | rfl | rfl | rfl | rfl | rfl
    case inr.inl =>
      cases h : Cal.leapB y
      · have HL : Hid (Cal.lp y = 0) := Cal.leapB_false h
        go_enter Tryd.func60, Tryd.ntmps60
        go_wp2_with (go_at_call 66; refine (rleap_any _ _).mono ?_; rintro e w' ⟨rfl, rfl⟩)
        go_ret
        exact ⟨ret_int (by simp [Cal.dim, HL.out]), (Below.refl _ _).alloc (Nat.le_refl _) _⟩
      · have HL : Hid (Cal.lp y = 1) := Cal.leapB_true h
        go_enter Tryd.func60, Tryd.ntmps60
        go_wp2_with (go_at_call 66; refine (rleap_any _ _).mono ?_; rintro e w' ⟨rfl, rfl⟩)
        go_ret
        exact ⟨ret_int (by simp [Cal.dim, HL.out]), (Below.refl _ _).alloc (Nat.le_refl _) _⟩
    all_goals
      go_enter Tryd.func60, Tryd.ntmps60
      go_wp2
      go_ret
      exact ⟨ret_int (by simp [Cal.dim]), (Below.refl _ _).alloc (Nat.le_refl _) _⟩
  · have hd : Cal.dim y m = 0 := by unfold Cal.dim; rw [if_neg (by omega), if_neg (by omega), if_neg hm]
    have HD : Hid (Cal.dim y m = 0) := hd
    clear hd
    by_cases h1 : m < 1
    all_goals
      go_enter Tryd.func60, Tryd.ntmps60
      go_wp2
      go_ret
      exact ⟨ret_int HD.out.symm, Below.refl _ _⟩
end Go.Proofs.YtabncmepkoiheaaDoor
