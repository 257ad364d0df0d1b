/- HeaderSame: which texts are the same but for capital letters. -/
import Derived.Test.YtgmdpjncgdojbaaDoorHs2
namespace Go.Proofs.YtgmdpjncgdojbaaDoor
open Go.RowKit Go.Shelf
set_option maxRecDepth 20000 in
set_option maxHeartbeats 1000000 in
theorem hsame_walk (a b : List UInt8) (w : World) : Calls Tryd.prog 6 #[.string ⟨a.toArray⟩, .string ⟨b.toArray⟩] w fun e w' => e = .returned (.bool true) ∧ Below w.heap.size w w' := by
  have HA := hide alive_yes
  have hsa := size_lit a
  have hsb := size_lit b
  by_cases h1 : a.length ≤ 5000
  · have g1 : decide ((a.length : Int) > 5000) = false := decide_eq_false (by omega)
    by_cases h2 : b.length ≤ 5000
    · have g2 : decide ((b.length : Int) > 5000) = false := decide_eq_false (by omega)
      have HS := hide (fun w => hsame_any a b w (by omega) (by omega))
      have HL := hide (fun w => rsmall_any a w (by omega))
      have HR := hide (fun w => rsmall_any b w (by omega))
      have HV : Hid (sameT a b = decide (a.map lowB = b.map lowB)) := rfl
      by_cases h : a.map lowB = b.map lowB
      · have hv : sameT a b = true := by rw [HV.out]; exact decide_eq_true h
        rw [hv] at HS
        rw [h] at HL
        generalize b.map lowB = t at *
        clear hv HV h
        go_enter Tryd.func6, Tryd.ntmps6
        go_wp2_with fail
        refine (HA.out _).mono ?_
        rintro e w1 ⟨rfl, hb1⟩
        replace hb1 := hide hb1
        go_wp2_with fail
        refine (HS.out _).mono ?_
        rintro e w2 ⟨rfl, hb2⟩
        replace hb2 := hide hb2
        go_wp2_with fail
        refine (HL.out _).mono ?_
        rintro e w3 ⟨rfl, hb3⟩
        replace hb3 := hide hb3
        go_wp2_with fail
        refine (HR.out _).mono ?_
        rintro e w4 ⟨rfl, hb4⟩
        replace hb4 := hide hb4
        go_wp2
        go_ret
        have k2 := hb1.out.trans (hb2.out.mono hb1.out.size)
        have k3 := k2.trans (hb3.out.mono k2.size)
        exact ⟨by simp, k3.trans (hb4.out.mono k3.size)⟩
      · have hv : sameT a b = false := by rw [HV.out]; exact decide_eq_false h
        rw [hv] at HS
        have hne : (a.map lowB == b.map lowB) = false := beq_eq_false_iff_ne.2 h
        generalize b.map lowB = t at *
        generalize a.map lowB = s at *
        clear hv HV
        go_enter Tryd.func6, Tryd.ntmps6
        go_wp2_with fail
        refine (HA.out _).mono ?_
        rintro e w1 ⟨rfl, hb1⟩
        replace hb1 := hide hb1
        go_wp2_with fail
        refine (HS.out _).mono ?_
        rintro e w2 ⟨rfl, hb2⟩
        replace hb2 := hide hb2
        go_wp2_with fail
        refine (HL.out _).mono ?_
        rintro e w3 ⟨rfl, hb3⟩
        replace hb3 := hide hb3
        go_wp2_with fail
        refine (HR.out _).mono ?_
        rintro e w4 ⟨rfl, hb4⟩
        replace hb4 := hide hb4
        go_wp2
        go_ret
        have k2 := hb1.out.trans (hb2.out.mono hb1.out.size)
        have k3 := k2.trans (hb3.out.mono k2.size)
        exact ⟨by simp, k3.trans (hb4.out.mono k3.size)⟩
    · have g2 : decide ((b.length : Int) > 5000) = true := decide_eq_true (by omega)
      go_enter Tryd.func6, Tryd.ntmps6
      go_wp2_with fail
      refine (HA.out _).mono ?_
      rintro e w1 ⟨rfl, hb1⟩
      replace hb1 := hide hb1
      go_wp2
      go_ret
      exact ⟨rfl, hb1.out⟩
  · have g1 : decide ((a.length : Int) > 5000) = true := decide_eq_true (by omega)
    go_enter Tryd.func6, Tryd.ntmps6
    go_wp2_with fail
    refine (HA.out _).mono ?_
    rintro e w1 ⟨rfl, hb1⟩
    replace hb1 := hide hb1
    go_wp2
    go_ret
    exact ⟨rfl, hb1.out⟩
end Go.Proofs.YtgmdpjncgdojbaaDoor
