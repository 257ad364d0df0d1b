/- The laws BoxesFits and BoxesStars. -/
import Derived.Test.YtelpjiiladbigaaDoorBt2
set_option linter.unusedSimpArgs false
set_option linter.unusedVariables false
namespace Go.Proofs.YtelpjiiladbigaaDoor
open Go.RowKit Go.Shelf
set_option maxRecDepth 20000 in
set_option maxHeartbeats 2000000 in
theorem boxesFits_walk {B : Nat} {w : World} (hM : MX B w) (hB : B ≤ w.heap.size) (P N : List UInt8) :
    Calls Tryd.prog 4 #[.string ⟨P.toArray⟩, .string ⟨N.toArray⟩] w fun e w' => e = .returned (.bool true) ∧ Below w.heap.size w w' := by
  have HA := hide (alive13 hM hB)
  have HF : Hid (∀ W, P.length ≤ 10000 → N.length ≤ 100000 → Below w.heap.size w W → Calls Tryd.prog 15 #[.string ⟨P.toArray⟩, .string ⟨N.toArray⟩] W fun e w' => e = .returned (.bool (fit (decide (N = inboxU)) P N)) ∧ Below w.heap.size w w') := fun W hP hN hW => (Fits_any (hM.keep (hW.mono hB)) (Nat.le_trans hB hW.size) P N hP hN).mono fun e w' h => ⟨h.1, hW.trans (h.2.mono hW.size)⟩
  have HG : Hid (∀ W, P.length ≤ 200 → N.length ≤ 200 → Below w.heap.size w W → Calls Tryd.prog 16 #[.string ⟨P.toArray⟩, .string ⟨N.toArray⟩] W fun e w' => e = .returned (.bool (fit (decide (N = inboxU)) P N)) ∧ Below w.heap.size w w') := fun W hP hN hW => (rfits_any P N W hP hN).mono fun e w' h => ⟨h.1, hW.trans (h.2.mono hW.size)⟩
  clear hM
  have hs1 := size_lit P
  have hs2 := size_lit N
  generalize fit (decide (N = inboxU)) P N = T at *
  by_cases h1 : P.length ≤ 200
  case neg =>
    have h1' : (200 : Int) < P.length := by omega
    go_enter Tryd.func4, Tryd.ntmps4
    go_wp2_with (go_at_call 9; refine HA.out.mono ?_; rintro e w1 ⟨rfl, hb1⟩)
    go_ret
    exact ⟨rfl, hb1⟩
  have h1' : ¬ (200 : Int) < P.length := by omega
  by_cases h2 : N.length ≤ 200
  case neg =>
    have h2' : (200 : Int) < N.length := by omega
    go_enter Tryd.func4, Tryd.ntmps4
    go_wp2_with (go_at_call 9; refine HA.out.mono ?_; rintro e w1 ⟨rfl, hb1⟩)
    go_ret
    exact ⟨rfl, hb1⟩
  have h2' : ¬ (200 : Int) < N.length := by omega
  go_enter Tryd.func4, Tryd.ntmps4
  go_wp2_with (first
    | (go_at_call 9; refine HA.out.mono ?_; rintro e w1 ⟨rfl, hb1⟩; replace hb1 := hide hb1)
    | (go_at_call 15; refine (HF.out _ (by omega) (by omega) hb1.out).mono ?_; rintro e w2 ⟨rfl, hb2⟩; replace hb2 := hide hb2)
    | (go_at_call 16; refine (HG.out _ h1 h2 hb2.out).mono ?_; rintro e w3 ⟨rfl, hb3⟩; replace hb3 := hide hb3))
  go_ret
  exact ⟨by simp, hb3.out⟩
end Go.Proofs.YtelpjiiladbigaaDoor
