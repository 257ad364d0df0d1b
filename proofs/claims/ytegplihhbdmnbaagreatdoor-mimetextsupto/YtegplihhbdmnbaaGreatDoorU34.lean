/- slices.Equal of parameters, slices.EqualFunc of kids. -/
import Derived.Test.YtegplihhbdmnbaaGreatDoorU33
set_option linter.unusedSimpArgs false
set_option linter.unusedVariables false
namespace Go.Proofs.YtegplihhbdmnbaaGreatDoor
open Go.RowKit Go.Shelf
set_option maxRecDepth 20000 in
set_option maxHeartbeats 4000000 in
theorem eqP_any (PS PS' : List Pm) (Ap Ap' : Option Addr) (cp cp' : Nat) (w : World) (hr : ReadOf Pm.cs 2 w (.slice Ap PS.length cp) PS) (hr' : ReadOf Pm.cs 2 w (.slice Ap' PS'.length cp') PS') (hb1 : PS.length ≤ 140737488355328) (hb2 : PS'.length ≤ 140737488355328) :
    Calls Tryz.prog 38 #[.slice Ap PS.length cp, .slice Ap' PS'.length cp'] w fun e w' => e = .returned (.bool (decide (PS = PS'))) ∧ Below w.heap.size w w' := by
  obtain ⟨R, hR⟩ : ∃ R, decide (PS = PS') = R := ⟨_, rfl⟩
  have HRs := hide hR
  obtain ⟨np, hnp⟩ : ∃ np, PS.length = np := ⟨_, rfl⟩
  obtain ⟨np', hnp'⟩ : ∃ np', PS'.length = np' := ⟨_, rfl⟩
  have HNp := hide hnp
  have HNp' := hide hnp'
  have HR := hide hr
  have HR' := hide hr'
  rw [hR]
  rw [hnp] at HR hb1 ⊢
  rw [hnp'] at HR' hb2 ⊢
  clear hR hr hr' hnp hnp'
  by_cases hne : np = np'
  · subst hne
    go_enter Tryz.func38, Tryz.ntmps38
    go_wp2
    go_loopw [13] (fun v wx => ∃ (i : Nat), v = .int .i64 i ∧ i ≤ np ∧ Hid (PS.take i = PS'.take i) ∧ Hid (Below w.heap.size w wx)) (fun v _ => np - (intOf v).toNat)
    case atStart => exact ⟨0, rfl, Nat.zero_le _, rfl, Below.refl _ _⟩
    case round =>
      obtain ⟨i, rfl, hin, HTk, HW⟩ := hrel
      have hsw := HW.out.size
      by_cases hlt : i < np
      · have hlt' : (i : Int) < np := by omega
        have hip : i < PS.length := by rw [HNp.out]; exact hlt
        have hip' : i < PS'.length := by rw [HNp'.out]; exact hlt
        obtain ⟨B, b, e2, hc2⟩ := HR.out
        obtain ⟨g2, o2, rfl, hg2, k2⟩ := hc2 i hip
        obtain ⟨B', b', e3, hc3⟩ := HR'.out
        obtain ⟨g3, o3, rfl, hg3, k3⟩ := hc3 i hip'
        injection e2 with e2a e2b e2c
        injection e3 with e3a e3b e3c
        subst e2a
        subst e3a
        subst e2c
        subst e3c
        clear e2b e3b
        obtain ⟨x, y, hab⟩ : ∃ a b, PS[i] = ⟨a, b⟩ := ⟨_, _, rfl⟩
        obtain ⟨x', y', hab'⟩ : ∃ a b, PS'[i] = ⟨a, b⟩ := ⟨_, _, rfl⟩
        rw [hab] at k2
        rw [hab'] at k3
        have hBw := HW.out
        have l0 : wr.cell? ⟨g2, o2 + i * 2, none⟩ = some (.string ⟨x.toArray⟩) := (hBw.cell (p := ⟨g2, _, none⟩) hg2).trans (k2 0 (by omega))
        have l1 : wr.cell? ⟨g2, o2 + i * 2 + 1, none⟩ = some (.string ⟨y.toArray⟩) := (hBw.cell (p := ⟨g2, _, none⟩) hg2).trans (k2 1 (by omega))
        have l2 : wr.cell? ⟨g3, o3 + i * 2, none⟩ = some (.string ⟨x'.toArray⟩) := (hBw.cell (p := ⟨g3, _, none⟩) hg3).trans (k3 0 (by omega))
        have l3 : wr.cell? ⟨g3, o3 + i * 2 + 1, none⟩ = some (.string ⟨y'.toArray⟩) := (hBw.cell (p := ⟨g3, _, none⟩) hg3).trans (k3 1 (by omega))
        clear k2 k3 hc2 hc3 HR HR'
        have hn' := ext_some wr
        have m0 : ∀ u : Ext wr, u.w.cell? ⟨g2, o2 + i * 2, none⟩ = some (.string ⟨x.toArray⟩) := fun u => (ext_cell wr u _ _ (by have := hBw.size; omega)).trans l0
        have m1 : ∀ u : Ext wr, u.w.cell? ⟨g2, o2 + i * 2 + 1, none⟩ = some (.string ⟨y.toArray⟩) := fun u => (ext_cell wr u _ _ (by have := hBw.size; omega)).trans l1
        have m2 : ∀ u : Ext wr, u.w.cell? ⟨g3, o3 + i * 2, none⟩ = some (.string ⟨x'.toArray⟩) := fun u => (ext_cell wr u _ _ (by have := hBw.size; omega)).trans l2
        have m3 : ∀ u : Ext wr, u.w.cell? ⟨g3, o3 + i * 2 + 1, none⟩ = some (.string ⟨y'.toArray⟩) := fun u => (ext_cell wr u _ _ (by have := hBw.size; omega)).trans l3
        clear l0 l1 l2 l3 hBw
        by_cases he : PS[i] = PS'[i]
        · have HTn := hide (take_eq_next hip hip' HTk.out he)
          rw [hab, hab'] at he
          injection he with he1 he2
          subst he1
          subst he2
          clear hab hab' hip hip'
          go_wp2_with fail
          refine wp_region_ext (by kernel_rfl) (by kernel_rfl) ?_
          repeat (go_big_quiet_step (fail))
          refine wpQuiet_nil ?_
          rintro w5 ⟨⟨_, hb5⟩, rfl⟩
          replace hb5 := hide hb5
          go_wp2
          go_roundw
          case rel => exact ⟨i + 1, by go_num, by omega, HTn, HW.out.trans (hb5.out.mono hsw)⟩
          case measure => simp [intOf]; omega
        · have HF : Hid (false = R) := by
            show false = R
            rw [← HRs.out, decide_eq_false (fun e => he (by simp [e]))]
          have hne := pm_ne hab hab' he
          clear hab hab' hip hip' he HTk
          rcases hne with hne | ⟨rfl, hne⟩
          all_goals
            go_wp2_with fail
            refine wp_region_ext (by kernel_rfl) (by kernel_rfl) ?_
            repeat (go_big_quiet_step (fail))
            refine wpQuiet_nil ?_
            rintro w5 ⟨⟨_, hb5⟩, rfl⟩
            replace hb5 := hide hb5
            clear m0 m1 m2 m3 hn'
            go_wp2
            go_ret
            exact ⟨congrArg (fun r => Ending.returned (.bool r)) HF.out, HW.out.trans (hb5.out.mono hsw)⟩
      · obtain rfl : np = i := by omega
        have HT : Hid (true = R) := by
          show true = R
          have h0 := HTk.out
          rw [List.take_of_length_le (by rw [HNp.out]; exact Nat.le_refl _), List.take_of_length_le (by rw [HNp'.out]; exact Nat.le_refl _)] at h0
          rw [← HRs.out, decide_eq_true h0]
        go_wp2
        go_ret
        exact ⟨congrArg (fun r => Ending.returned (.bool r)) HT.out, HW.out⟩
  · have hne' : ((np : Int) == (np' : Int)) = false := beq_no (by omega)
    have HF : Hid (false = R) := by
      show false = R
      rw [← HRs.out, decide_eq_false (fun e => hne (by rw [← HNp.out, ← HNp'.out, e]))]
    go_enter Tryz.func38, Tryz.ntmps38
    go_wp2
    go_ret
    exact ⟨congrArg (fun r => Ending.returned (.bool r)) HF.out, Below.refl _ _⟩
end Go.Proofs.YtegplihhbdmnbaaGreatDoor
