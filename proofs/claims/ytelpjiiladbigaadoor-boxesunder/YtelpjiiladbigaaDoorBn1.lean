/- Plain texts of package boxes: isPlain, Pattern; the document's plain, Pattern. -/
import Derived.Test.YtelpjiiladbigaaDoorBnMath
import Derived.Test.YtelpjiiladbigaaDoorIdx
import Derived.Test.YtelpjiiladbigaaDoorBo13
set_option linter.unusedSimpArgs false
set_option linter.unusedVariables false
namespace Go.Proofs.YtelpjiiladbigaaDoor
open Go.RowKit Go.Shelf
def spBL : List UInt8 := [40, 41, 123, 34, 92]
/-- A rune that no pattern has. -/
def badR (x : Nat) : Bool := decide (x < 33) || decide (126 < x) || spBL.any fun c => c.toNat == x
theorem badR_low : ∀ x, x < 128 → badR x = !plnB true x.toUInt8 := by decide +kernel
theorem runeT_pln : RuneT badR (plnB true) := by
  refine ⟨fun c h => ?_, fun x h => ?_, fun c h => ?_⟩
  · have := badR_low c.toNat h
    rw [this]
    congr 2
    simp
  · unfold badR
    rw [decide_eq_true (by omega : 126 < x)]
    simp
  · unfold plnB at h
    simp at h
    omega
theorem spB_idx : ∀ x, x < 128 → decide (0 ≤ Lib.indexByte spBL x.toUInt8) = spBL.any fun c => c.toNat == x := by decide +kernel
theorem contSpB (x : Nat) (hx : x < 128) (w : World) : Calls Tryd.prog 40 #[.string ⟨#[40, 41, 123, 34, 92]⟩, .int .i32 (x : Nat)] w fun e w' => e = .returned (.bool (spBL.any fun c => c.toNat == x)) ∧ w' = w := by
  have := Tryd.strings_ContainsRune_ascii ⟨#[40, 41, 123, 34, 92]⟩ (x : Nat) w (by omega) (by omega)
  rw [← spB_idx x hx]
  exact this
theorem badR_any (x : Nat) (hx : x ≤ 1114111) (w : World) : Calls Tryd.prog 39 #[.int .i32 (x : Nat)] w fun e w' => e = .returned (.bool (badR x)) ∧ w' = w := by
  by_cases h1 : x < 33
  · have b1 : (x : Int) < 33 := by omega
    have HV : Hid (badR x = true) := by
      show _ = _
      unfold badR
      rw [decide_eq_true h1]
      rfl
    go_enter Tryd.func39, Tryd.ntmps39
    go_wp2
    go_ret
    exact ⟨by rw [HV.out]; rfl, rfl⟩
  · have b1 : ¬ (x : Int) < 33 := by omega
    by_cases h2 : x > 126
    · have b2 : (x : Int) > 126 := by omega
      have HV : Hid (badR x = true) := by
        show _ = _
        unfold badR
        rw [decide_eq_true (by omega : 126 < x)]
        simp
      go_enter Tryd.func39, Tryd.ntmps39
      go_wp2
      go_ret
      exact ⟨by rw [HV.out]; rfl, rfl⟩
    · have b2 : ¬ (x : Int) > 126 := by omega
      have HV : Hid (badR x = spBL.any fun c => c.toNat == x) := by
        show _ = _
        unfold badR
        rw [decide_eq_false h1, decide_eq_false (by omega : ¬ 126 < x)]
        simp
      have HC := hide (contSpB x (by omega))
      generalize (spBL.any fun c => c.toNat == x) = v at *
      go_enter Tryd.func39, Tryd.ntmps39
      go_wp2_with (first
        | (go_at_call 40; refine (HC.out _).mono ?_; rintro e w1 ⟨rfl, rfl⟩))
      go_ret
      exact ⟨by rw [HV.out]; rfl, rfl⟩
theorem contPln (r : List UInt8) (w : World) : Calls Tryd.prog 38 #[.string ⟨r.toArray⟩, .func (.func 39) #[] #[]] w fun e w' => e = .returned (.bool (!r.all (plnB true))) ∧ Below w.heap.size w w' := by
  rw [← idx_allG runeT_pln]
  refine Tryd.strings_ContainsFunc_grows 39 #[] (enters_of Tryd.func39 (by kernel_rfl) rfl) badR ⟨r.toArray⟩ w ?_
  intro W x hx _
  exact (badR_any x hx W).mono fun e w' ⟨he, hw⟩ => ⟨he, hw ▸ Below.refl _ _⟩
theorem isPlain_any (r : List UInt8) (w : World) : Calls Tryd.prog 24 #[.string ⟨r.toArray⟩] w fun e w' => e = .returned (.bool (r.all (plnB true))) ∧ Below w.heap.size w w' := by
  have HC := hide (contPln r)
  generalize r.all (plnB true) = b at *
  go_enter Tryd.func24, Tryd.ntmps24
  go_wp2_with (first
    | (go_at_call 38; refine (HC.out _).mono ?_; rintro e w1 ⟨rfl, hb1⟩; replace hb1 := hide hb1))
  go_ret
  exact ⟨by simp, hb1.out⟩
theorem pattern_any (r : List UInt8) (w : World) (hr : r.length ≤ 1000000) : Calls Tryd.prog 13 #[.string ⟨r.toArray⟩] w fun e w' => e = .returned (.bool (patB r)) ∧ Below w.heap.size w w' := by
  have HC := hide (isPlain_any r)
  have hsz := size_lit r
  by_cases hl : r.length ≤ 100
  · have hl' : (r.length : Int) ≤ 100 := by omega
    have HV : Hid (patB r = r.all (plnB true)) := by show _ = _; unfold patB; rw [decide_eq_true hl, Bool.and_true]
    generalize r.all (plnB true) = b at *
    go_enter Tryd.func13, Tryd.ntmps13
    go_wp2_with (first
      | (go_at_call 24; refine (HC.out _).mono ?_; rintro e w1 ⟨rfl, hb1⟩; replace hb1 := hide hb1))
    go_ret
    exact ⟨by rw [HV.out]; rfl, hb1.out⟩
  · have hl' : ¬ (r.length : Int) ≤ 100 := by omega
    have HV : Hid (patB r = false) := by show _ = _; unfold patB; rw [decide_eq_false hl, Bool.and_false]
    go_enter Tryd.func13, Tryd.ntmps13
    go_wp2_with fail
    go_ret
    exact ⟨by rw [HV.out]; rfl, Below.refl _ _⟩
end Go.Proofs.YtelpjiiladbigaaDoor
