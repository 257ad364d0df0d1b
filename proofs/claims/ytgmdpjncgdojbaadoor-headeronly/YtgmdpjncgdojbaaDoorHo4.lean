/- HeaderOnly: which fields stand in a header of some names. -/
import Derived.Test.YtgmdpjncgdojbaaDoorHo3
namespace Go.Proofs.YtgmdpjncgdojbaaDoor
open Go.RowKit Go.Shelf
set_option maxRecDepth 20000 in
set_option maxHeartbeats 2000000 in
theorem honly_walk (m : List UInt8) (v : Value) (xs : List (List UInt8)) (nt : Bool) (w : World) (hv : TX w v xs) : Calls Tryd.prog 5 #[.string ⟨m.toArray⟩, v, .bool nt] w fun e w' => e = .returned (.bool true) ∧ Below w.heap.size w w' := by
  have HA := hide alive_yes
  have hsm := size_lit m
  have HV := hide hv
  obtain ⟨A, c, rfl, hr⟩ := hv
  have HR := hide hr
  clear hr
  by_cases h1 : m.length ≤ 10000
  · have g1 : decide ((m.length : Int) > 10000) = false := decide_eq_false (by omega)
    by_cases h2 : xs.length ≤ 50
    · have g2 : decide ((xs.length : Int) > 50) = false := decide_eq_false (by omega)
      go_enter Tryd.func5, Tryd.ntmps5
      go_wp2_with fail
      refine (HA.out _).mono ?_
      rintro e w1 ⟨rfl, hb1⟩
      replace hb1 := hide hb1
      go_wp2
      go_loopw [21] (fun v21 wr => ∃ k : Nat, k ≤ xs.length ∧ v21 = .int .i64 k ∧ Hid (∀ x ∈ xs.take k, x.length ≤ 500) ∧ Hid (Below w.heap.size w wr)) (fun v21 _ => xs.length - (intOf v21).toNat)
      case atStart => exact ⟨0, Nat.zero_le _, rfl, (fun x hx => by simp at hx), hb1⟩
      case round =>
        obtain ⟨k, hk, rfl, HT, HB⟩ := hrel
        have hbs := HB.out.size
        by_cases hlt : k < xs.length
        · obtain ⟨g, o, rfl, hgl, q0⟩ := HR.out k hlt
          have hlt' : (k : Int) < xs.length := by omega
          replace q0 := (HB.out.cell (p := ⟨g, o + k, none⟩) hgl).trans q0
          have hpz := size_lit xs[k]
          by_cases h3 : xs[k].length ≤ 500
          · have g3 : ¬ ((xs[k].length : Int) > 500) := by omega
            have HT2 : Hid (∀ x ∈ xs.take (k + 1), x.length ≤ 500) := by
              intro x hx
              rw [List.take_succ_eq_append_getElem hlt] at hx
              rcases List.mem_append.1 hx with hx | hx
              · exact HT.out x hx
              · rw [List.mem_singleton.1 hx]
                exact h3
            generalize xs[k] = n at *
            clear HT
            go_wp2
            go_roundw
            case rel => exact ⟨k + 1, by omega, by go_num, HT2, HB⟩
            case measure => simp [intOf]; omega
          · have g3 : (xs[k].length : Int) > 500 := by omega
            generalize xs[k] = n at *
            clear HT
            go_wp2
            go_ret
            exact ⟨rfl, HB.out⟩
        · obtain rfl : k = xs.length := by omega
          have HN : Hid (∀ x ∈ xs, x.length ≤ 500) := by
            have := HT.out
            rw [List.take_length] at this
            exact this
          have HV1 := hide (HV.out.below HB.out)
          have HO := hide (only_any m _ xs nt wr HV1.out h1 h2 HN.out)
          have HRO := hide (fun W (hW : Below w.heap.size w W) => ronly_any m _ xs nt W (HV.out.below hW) h1 h2 HN.out)
          have HCt := hide (fun w => count_any m w (by omega))
          have HSp := hide (fun w => rsplit_any m w (by omega))
          generalize onlyL m (xs.map (List.map lowB)) nt (hd (splitS m) 0).1 ++ [13, 10] = R at *
          clear HT HV
          go_wp2_with fail
          refine HO.out.mono ?_
          rintro e w2 ⟨rfl, hb2⟩
          have HB2 := hide (HB.out.trans (hb2.mono HB.out.size))
          clear hb2 HO
          go_wp2_with fail
          refine (HRO.out _ HB2.out).mono ?_
          rintro e w3 ⟨rfl, hb3⟩
          have HB3 := hide (HB2.out.trans (hb3.mono HB2.out.size))
          clear hb3 HRO
          go_wp2_with fail
          refine (HCt.out _).mono ?_
          rintro e w4 ⟨rfl, hw4⟩
          have HB4 : Hid (Below w.heap.size w w4) := by
            show Below _ _ _
            rw [hw4]
            exact HB3.out
          clear hw4 HCt
          go_wp2_with fail
          refine (HSp.out _).mono ?_
          rintro e w5 ⟨u, rfl, hb5, G, hrw, _⟩
          have HB5 := hide (HB4.out.trans (hb5.mono HB4.out.size))
          obtain ⟨A5, c5, rfl⟩ := hrw.form
          clear hrw hb5 HSp
          go_wp2
          go_ret
          exact ⟨by simp, HB5.out⟩
    · have g2 : decide ((xs.length : Int) > 50) = true := decide_eq_true (by omega)
      go_enter Tryd.func5, Tryd.ntmps5
      go_wp2_with fail
      refine (HA.out _).mono ?_
      rintro e w1 ⟨rfl, hb1⟩
      replace hb1 := hide hb1
      go_wp2
      go_ret
      exact ⟨rfl, hb1.out⟩
  · have g1 : decide ((m.length : Int) > 10000) = true := decide_eq_true (by omega)
    go_enter Tryd.func5, Tryd.ntmps5
    go_wp2_with fail
    refine (HA.out _).mono ?_
    rintro e w1 ⟨rfl, hb1⟩
    replace hb1 := hide hb1
    go_wp2
    go_ret
    exact ⟨rfl, hb1.out⟩
end Go.Proofs.YtgmdpjncgdojbaaDoor
