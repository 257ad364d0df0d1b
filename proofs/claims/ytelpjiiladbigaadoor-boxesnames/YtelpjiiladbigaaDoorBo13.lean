/- alive of layer 13. -/
import Derived.Test.YtelpjiiladbigaaDoorBo12
set_option linter.unusedSimpArgs false
set_option linter.unusedVariables false
namespace Go.Proofs.YtelpjiiladbigaaDoor
open Go.RowKit Go.Shelf
set_option maxRecDepth 20000 in
set_option maxHeartbeats 1000000 in
theorem alive13 {B : Nat} {w : World} (hM : MX B w) (hB : B ≤ w.heap.size) : Calls Tryd.prog 9 #[] w fun e w' => e = .returned (.bool true) ∧ Below w.heap.size w w' := by
  have HMo : Hid (Calls Tryd.prog 17 #[.string ⟨#[97, 47, 120]⟩, .string ⟨#[97]⟩, .string ⟨#[98, 47, 99]⟩] w fun e w' => e = .returned (.tuple #[.string ⟨#[98, 47, 99, 47, 120]⟩, .bool true]) ∧ w' = w) := by
    have := moved_any [97, 47, 120] [97] [98, 47, 99] w (by decide) (by decide) (by decide)
    rwa [show movV (movO [97, 47, 120] [97] [98, 47, 99]) = .returned (.tuple #[.string ⟨#[98, 47, 99, 47, 120]⟩, .bool true]) from by simp [movV, movO, undB]] at this
  have HF : Hid (∀ (P N : List UInt8) (W : World), P.length ≤ 10000 → N.length ≤ 100000 → Below w.heap.size w W → Calls Tryd.prog 15 #[.string ⟨P.toArray⟩, .string ⟨N.toArray⟩] W fun e w' => e = .returned (.bool (fit (decide (N = inboxU)) P N)) ∧ Below w.heap.size w w') := fun P N W hP hN hW => (Fits_any (hM.keep (hW.mono hB)) (Nat.le_trans hB hW.size) P N hP hN).mono fun e w' h => ⟨h.1, hW.trans (h.2.mono hW.size)⟩
  clear hM
  have H1 : Hid (∀ W, Below w.heap.size w W → Calls Tryd.prog 15 #[.string ⟨#[97, 47, 37]⟩, .string ⟨#[97, 47, 98]⟩] W fun e w' => e = .returned (.bool true) ∧ Below w.heap.size w w') := fun W hW => by
    have := HF.out [97, 47, 37] [97, 47, 98] W (by decide) (by decide) hW
    rwa [show fit (decide (([97, 47, 98] : List UInt8) = inboxU)) [97, 47, 37] [97, 47, 98] = true from by simp [fit, starB, sameI]] at this
  have H2 : Hid (∀ W, Below w.heap.size w W → Calls Tryd.prog 15 #[.string ⟨#[97, 47, 37]⟩, .string ⟨#[97, 47, 98, 47, 99]⟩] W fun e w' => e = .returned (.bool false) ∧ Below w.heap.size w w') := fun W hW => by
    have := HF.out [97, 47, 37] [97, 47, 98, 47, 99] W (by decide) (by decide) hW
    rwa [show fit (decide (([97, 47, 98, 47, 99] : List UInt8) = inboxU)) [97, 47, 37] [97, 47, 98, 47, 99] = false from by simp [fit, starB, sameI]] at this
  have H3 : Hid (∀ W, Below w.heap.size w W → Calls Tryd.prog 15 #[.string ⟨#[97, 42]⟩, .string ⟨#[97, 47, 98, 47, 99]⟩] W fun e w' => e = .returned (.bool true) ∧ Below w.heap.size w w') := fun W hW => by
    have := HF.out [97, 42] [97, 47, 98, 47, 99] W (by decide) (by decide) hW
    rwa [show fit (decide (([97, 47, 98, 47, 99] : List UInt8) = inboxU)) [97, 42] [97, 47, 98, 47, 99] = true from by simp [fit, starB, sameI]] at this
  have H4 : Hid (∀ W, Below w.heap.size w W → Calls Tryd.prog 15 #[.string ⟨#[73, 110, 66, 37]⟩, .string ⟨#[73, 78, 66, 79, 88]⟩] W fun e w' => e = .returned (.bool true) ∧ Below w.heap.size w w') := fun W hW => by
    have := HF.out [73, 110, 66, 37] [73, 78, 66, 79, 88] W (by decide) (by decide) hW
    rwa [show fit (decide (([73, 78, 66, 79, 88] : List UInt8) = inboxU)) [73, 110, 66, 37] [73, 78, 66, 79, 88] = true from by simp [fit, starB, sameI, lowB, inboxU]] at this
  have HW : Hid (Below w.heap.size w w) := Below.refl _ _
  clear HF
  go_enter Tryd.func9, Tryd.ntmps9
  go_wp2_with (go_at_call 17; refine HMo.out.mono ?_; rintro e w' ⟨rfl, rfl⟩)
  refine (H1.out _ HW.out).mono ?_
  rintro e w2 ⟨rfl, hb2⟩
  clear HW H1
  replace hb2 := hide hb2
  go_wp2_with fail
  refine (H2.out _ hb2.out).mono ?_
  rintro e w3 ⟨rfl, hb3⟩
  clear hb2 H2
  replace hb3 := hide hb3
  go_wp2_with fail
  refine (H3.out _ hb3.out).mono ?_
  rintro e w4 ⟨rfl, hb4⟩
  clear hb3 H3
  replace hb4 := hide hb4
  go_wp2_with fail
  refine (H4.out _ hb4.out).mono ?_
  rintro e w5 ⟨rfl, hb5⟩
  clear hb4 H4
  have HW := hide hb5
  go_wp2
  go_ret
  exact ⟨rfl, HW.out⟩
end Go.Proofs.YtelpjiiladbigaaDoor
