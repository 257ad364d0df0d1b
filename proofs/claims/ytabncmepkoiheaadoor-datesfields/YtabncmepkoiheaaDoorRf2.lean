/- The document's made: a date's moment less a zone. -/
import Derived.Test.YtabncmepkoiheaaDoorRf1
import Derived.Test.YtabncmepkoiheaaDoorRRight
namespace Go.Proofs.YtabncmepkoiheaaDoor
open Go.RowKit
/-- What made answers: the moment, and the error's number. -/
def madeV (y m d h mi s z : Int) : Value := if rightB y m d h mi s = true ∧ 0 ≤ mom y m d h mi s - z ∧ mom y m d h mi s - z ≤ 4102444799 then .tuple #[.int .i64 (mom y m d h mi s - z), .int .i64 0] else .tuple #[.int .i64 0, .int .i64 1]
set_option maxHeartbeats 2000000 in
theorem made_any (y m d h mi s wk z : Int) (w : World) (hz : -90000 ≤ z ∧ z ≤ 90000) : Calls Tryd.prog 27 #[.agg #[.int .i64 y, .int .i64 m, .int .i64 d, .int .i64 h, .int .i64 mi, .int .i64 s, .int .i64 wk], .int .i64 z] w fun e w' => e = .returned (madeV y m d h mi s z) ∧ Below w.heap.size w w' := by
  obtain ⟨hz1, hz2⟩ := hz
  unfold madeV
  cases hr : rightB y m d h mi s with
  | false =>
    rw [if_neg (by simp)]
    go_enter Tryd.func27, Tryd.ntmps27
    go_wp2_with fail
    refine (rright_any _ _ _ _ _ _ _ _).mono ?_
    rw [hr]
    rintro e w1 ⟨rfl, hb1⟩
    replace hb1 := hide hb1
    go_wp2
    go_ret2
    exact ⟨rfl, ((Below.refl _ _).alloc (Nat.le_refl _) _).trans (hb1.out.mono (by simp))⟩
  | true =>
    have hmb := mom_bound hr
    obtain ⟨T, hT⟩ : ∃ T, mom y m d h mi s = T := ⟨_, rfl⟩
    rw [hT] at hmb ⊢
    have HMY : Hid (∀ u : World, Calls Tryd.prog 50 #[.agg #[.int .i64 y, .int .i64 m, .int .i64 d, .int .i64 h, .int .i64 mi, .int .i64 s, .int .i64 wk]] u fun e w' => e = .returned (.int .i64 T) ∧ Below u.heap.size u w') := fun u => by
      have := rmoment_any y m d h mi s wk u hr
      rw [hT] at this
      exact this
    have HRT : Hid (∀ u : World, Calls Tryd.prog 49 #[.agg #[.int .i64 y, .int .i64 m, .int .i64 d, .int .i64 h, .int .i64 mi, .int .i64 s, .int .i64 wk]] u fun e w' => e = .returned (.bool true) ∧ Below u.heap.size u w') := fun u => by
      have := rright_any y m d h mi s wk u
      rw [hr] at this
      exact this
    clear hr hT
    by_cases hin : 0 ≤ T - z ∧ T - z ≤ 4102444799
    · rw [if_pos ⟨rfl, hin⟩]
      obtain ⟨hin1, hin2⟩ := hin
      have hn1 : ¬ T - z < 0 := by omega
      have hn2 : ¬ 4102444799 < T - z := by omega
      go_enter Tryd.func27, Tryd.ntmps27
      go_wp2_with fail
      refine (HRT.out _).mono ?_
      rintro e w1 ⟨rfl, hb1⟩
      have hk1 := (Blk.new w #[.int .i64 y, .int .i64 m, .int .i64 d, .int .i64 h, .int .i64 mi, .int .i64 s, .int .i64 wk] 32).below hb1 (by simp)
      have hc1 := hk1.cell
      have HB1 := hide (((Below.refl w.heap.size w).alloc (Nat.le_refl _) (.cells #[.int .i64 y, .int .i64 m, .int .i64 d, .int .i64 h, .int .i64 mi, .int .i64 s, .int .i64 wk] 32)).trans (hb1.mono (by simp)))
      clear hb1 hk1
      go_wp2_with fail
      refine (HMY.out _).mono ?_
      rintro e w2 ⟨rfl, hb2⟩
      have HB2 := hide (HB1.out.trans (hb2.mono HB1.out.size))
      clear hb2
      go_wp2
      go_ret2
      exact ⟨rfl, HB2.out⟩
    · rw [if_neg (fun h => hin h.2)]
      by_cases hlow : T - z < 0
      · go_enter Tryd.func27, Tryd.ntmps27
        go_wp2_with fail
        refine (HRT.out _).mono ?_
        rintro e w1 ⟨rfl, hb1⟩
        have hk1 := (Blk.new w #[.int .i64 y, .int .i64 m, .int .i64 d, .int .i64 h, .int .i64 mi, .int .i64 s, .int .i64 wk] 32).below hb1 (by simp)
        have hc1 := hk1.cell
        have HB1 := hide (((Below.refl w.heap.size w).alloc (Nat.le_refl _) (.cells #[.int .i64 y, .int .i64 m, .int .i64 d, .int .i64 h, .int .i64 mi, .int .i64 s, .int .i64 wk] 32)).trans (hb1.mono (by simp)))
        clear hb1 hk1
        go_wp2_with fail
        refine (HMY.out _).mono ?_
        rintro e w2 ⟨rfl, hb2⟩
        have HB2 := hide (HB1.out.trans (hb2.mono HB1.out.size))
        clear hb2
        go_wp2
        go_ret2
        exact ⟨rfl, HB2.out⟩
      · have hhi : 4102444799 < T - z := by omega
        go_enter Tryd.func27, Tryd.ntmps27
        go_wp2_with fail
        refine (HRT.out _).mono ?_
        rintro e w1 ⟨rfl, hb1⟩
        have hk1 := (Blk.new w #[.int .i64 y, .int .i64 m, .int .i64 d, .int .i64 h, .int .i64 mi, .int .i64 s, .int .i64 wk] 32).below hb1 (by simp)
        have hc1 := hk1.cell
        have HB1 := hide (((Below.refl w.heap.size w).alloc (Nat.le_refl _) (.cells #[.int .i64 y, .int .i64 m, .int .i64 d, .int .i64 h, .int .i64 mi, .int .i64 s, .int .i64 wk] 32)).trans (hb1.mono (by simp)))
        clear hb1 hk1
        go_wp2_with fail
        refine (HMY.out _).mono ?_
        rintro e w2 ⟨rfl, hb2⟩
        have HB2 := hide (HB1.out.trans (hb2.mono HB1.out.size))
        clear hb2
        go_wp2
        go_ret2
        exact ⟨rfl, HB2.out⟩
end Go.Proofs.YtabncmepkoiheaaDoor
