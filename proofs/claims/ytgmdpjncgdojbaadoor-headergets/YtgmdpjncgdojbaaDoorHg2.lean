/- HeaderGets: which values fields of a name have. -/
import Derived.Test.YtgmdpjncgdojbaaDoorHg1
namespace Go.Proofs.YtgmdpjncgdojbaaDoor
open Go.RowKit Go.Shelf
theorem drewN_below' {w w' : World} {n : Nat} (h : w' = w.drewN n) : Below w.heap.size w w' := by
  subst h
  exact bel_drewN _ _
theorem len_all {xs : List FI} (h : ∀ x ∈ xs.take xs.length, x.name.length ≤ 1000) : ∀ x ∈ xs, x.name.length ≤ 1000 := by
  rw [List.take_length] at h
  exact h
set_option maxRecDepth 20000 in
set_option maxHeartbeats 2000000 in
theorem hgets_walk (v : Value) (xs : List FI) (n : List UInt8) (w : World) (hv : FA w v xs) : Calls Tryd.prog 4 #[v, .string ⟨n.toArray⟩] w fun e w' => e = .returned (.bool true) ∧ Below w.heap.size w w' := by
  have HA := hide alive_yes
  have hsn := size_lit n
  have HV := hide hv
  obtain ⟨A, c, rfl, hr⟩ := hv
  have HR := hide hr
  clear hr
  by_cases h1 : xs.length ≤ 1000
  · have g1 : decide ((xs.length : Int) > 1000) = false := decide_eq_false (by omega)
    by_cases h2 : n.length ≤ 1000
    · have g2 : decide ((n.length : Int) > 1000) = false := decide_eq_false (by omega)
      go_enter Tryd.func4, Tryd.ntmps4
      go_wp2_with fail
      refine (HA.out _).mono ?_
      rintro e w1 ⟨rfl, hb1⟩
      replace hb1 := hide hb1
      go_wp2
      go_loopw [23] (fun v10 wr => ∃ k : Nat, k ≤ xs.length ∧ v10 = .int .i64 k ∧ Hid (∀ x ∈ xs.take k, x.name.length ≤ 1000) ∧ Hid (Below w.heap.size w wr)) (fun v10 _ => xs.length - (intOf v10).toNat)
      case atStart => exact ⟨0, Nat.zero_le _, rfl, (fun x hx => by simp at hx), hb1⟩
      case round =>
        obtain ⟨k, hk, rfl, HT, HB⟩ := hrel
        have hbs := HB.out.size
        by_cases hlt : k < xs.length
        · obtain ⟨g, o, rfl, hgl, q0, q1, q2, q3⟩ := HR.out k hlt
          have hlt' : (k : Int) < xs.length := by omega
          replace q0 := (HB.out.cell (p := ⟨g, o + k * 4, none⟩) hgl).trans q0
          replace q1 := (HB.out.cell (p := ⟨g, o + k * 4 + 1, none⟩) hgl).trans q1
          replace q2 := (HB.out.cell (p := ⟨g, o + k * 4 + 2, none⟩) hgl).trans q2
          replace q3 := (HB.out.cell (p := ⟨g, o + k * 4 + 3, none⟩) hgl).trans q3
          have hpz := size_lit xs[k].name
          by_cases h3 : xs[k].name.length ≤ 1000
          · have g3 : ¬ ((xs[k].name.length : Int) > 1000) := by omega
            have HT2 : Hid (∀ x ∈ xs.take (k + 1), x.name.length ≤ 1000) := by
              intro x hx
              rw [List.take_succ_eq_append_getElem hlt] at hx
              rcases List.mem_append.1 hx with hx | hx
              · exact HT.out x hx
              · rw [List.mem_singleton.1 hx]
                exact h3
            generalize xs[k] = p at *
            obtain ⟨pn, pv, pa, pe⟩ := p
            dsimp only at *
            clear HT
            go_wp2
            go_roundw
            case rel => exact ⟨k + 1, by omega, by go_num, HT2, HB.out.alloc HB.out.size _⟩
            case measure => simp [intOf]; omega
          · have g3 : (xs[k].name.length : Int) > 1000 := by omega
            generalize xs[k] = p at *
            obtain ⟨pn, pv, pa, pe⟩ := p
            dsimp only at *
            clear HT
            go_wp2
            go_ret
            exact ⟨rfl, HB.out.alloc HB.out.size _⟩
        · obtain rfl : k = xs.length := by omega
          have HN := hide (len_all HT.out)
          have HVr := hide (HV.out.below (HB.out))
          have HL := hide (all_any n _ xs wr HVr.out h1 h2 HN.out)
          have hvl := vals_len n xs xs.length
          rw [List.take_length] at hvl
          clear HT HV
          go_wp2_with fail
          refine HL.out.mono ?_
          rintro e w2 ⟨u2, rfl, hT2⟩
          have HT2 := hide hT2
          have HB2 := hide (HB.out.trans (hT2.1.mono HB.out.size))
          have HV2 := hide (HVr.out.below hT2.1)
          have HG := hide (rget_any n _ xs w2 HV2.out h1 h2 HN.out)
          clear hT2 HL HVr
          go_wp2_with fail
          refine HG.out.mono ?_
          rintro e w3 ⟨u3, rfl, hT3⟩
          have HX2 := hide (HT2.out.tx.below hT3.1)
          have HB3 := hide (HB2.out.trans (hT3.1.mono HB2.out.size))
          have HV3 := hide (HV2.out.below hT3.1)
          have HX3 := hide hT3.tx
          have HP := hide (get_any n _ xs w3 HV3.out h1 h2 HN.out)
          clear hT3 HT2 HG HV2
          generalize valsOf n xs = ys at *
          go_wp2_with fail
          refine HP.out.mono ?_
          rintro e w4 ⟨rfl, hb4⟩
          have HX4 := hide (HX3.out.below hb4)
          have HSm := hide (tsame_yes w4 (HX2.out.below hb4) HX4.out (by omega))
          have HB4 := hide (HB3.out.trans (hb4.mono HB3.out.size))
          clear hb4 HP HX3 HV3 HX2
          obtain ⟨A3, c3, rfl, hx3⟩ := HX4.out
          replace hx3 := hide hx3
          clear HX4
          cases ys with
          | nil =>
            simp only [List.head?_nil, Option.getD_none, List.isEmpty_nil, Bool.not_true, List.length_nil]
            go_wp2_with fail
            refine HSm.out.mono ?_
            rintro e w5 ⟨rfl, n5, hw5⟩
            have hb5 := hide (drewN_below' hw5)
            clear hw5
            go_wp2
            go_ret
            exact ⟨rfl, HB4.out.trans (hb5.out.mono HB4.out.size)⟩
          | cons y ys =>
            simp only [List.head?_cons, Option.getD_some, List.isEmpty_cons, Bool.not_false, List.length_cons] at *
            obtain ⟨g, o, rfl, hgl, q0⟩ := hx3.out 0 (by simp)
            simp only [List.getElem_cons_zero, Nat.add_zero] at q0
            have hyl : (0 : Int) < (ys.length : Int) + 1 := by omega
            go_wp2_with fail
            refine HSm.out.mono ?_
            rintro e w5 ⟨rfl, n5, hw5⟩
            have hb5 := hide (drewN_below' hw5)
            have q5 := (hb5.out.cell (p := ⟨g, o, none⟩) hgl).trans q0
            clear hw5 q0
            go_wp2
            go_ret
            exact ⟨by simp, HB4.out.trans (hb5.out.mono HB4.out.size)⟩
    · have g2 : decide ((n.length : Int) > 1000) = true := decide_eq_true (by omega)
      go_enter Tryd.func4, Tryd.ntmps4
      go_wp2_with fail
      refine (HA.out _).mono ?_
      rintro e w1 ⟨rfl, hb1⟩
      replace hb1 := hide hb1
      go_wp2
      go_ret
      exact ⟨rfl, hb1.out⟩
  · have g1 : decide ((xs.length : Int) > 1000) = true := decide_eq_true (by omega)
    go_enter Tryd.func4, Tryd.ntmps4
    go_wp2_with fail
    refine (HA.out _).mono ?_
    rintro e w1 ⟨rfl, hb1⟩
    replace hb1 := hide hb1
    go_wp2
    go_ret
    exact ⟨rfl, hb1.out⟩
end Go.Proofs.YtgmdpjncgdojbaaDoor
