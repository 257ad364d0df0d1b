/- The law SeqsJoins, wherever package seqs answers as told. -/
import Derived.Test.YtbjencibkkhbhabGreatDoorSl2
import Derived.Test.YtbjencibkkhbhabGreatDoorRgArg
set_option linter.unusedSimpArgs false
set_option linter.unusedVariables false
namespace Go.Proofs.YtbjencibkkhbhabGreatDoor
open Go.RowKit Go.Shelf
theorem rw_ra {w : World} {v : Value} {rs : List (Int × Int)} {G : Option Nat} (h : Rw w 2 v rs.length (rs.flatMap rgF) G) : RA w v rs := Rs.ra (b0 := 0) (B := 0) (w1 := w) ⟨Mvs.refl _ _, G, h, fun g _ => .inr (Nat.zero_le _)⟩
set_option maxRecDepth 20000 in
set_option maxHeartbeats 2000000 in
theorem seqsJoins_walk {w : World} (hA : CAlive w) (hH : CHas w) {v u : Value} {rs qs : List (Int × Int)} (hv : RA w v rs) (hu : RA w u qs) (n : Int) :
    Calls Tryz.prog 5 #[v, u, .int .i64 n] w fun e w' => e = .returned (.bool true) ∧ Below w.heap.size w w' := by
  have HA : Hid (Calls Tryz.prog 6 #[] w fun e w' => e = .returned (.bool true) ∧ Below w.heap.size w w') := hA
  have HV := hide hv
  have HU := hide hu
  obtain ⟨A1, c1, rfl, _⟩ := hv
  obtain ⟨A2, c2, rfl, _⟩ := hu
  by_cases hb : rs.length ≤ 500 ∧ qs.length ≤ 500
  · obtain ⟨hl1, hl2⟩ := hb
    have hl1' : ¬ (500 : Int) < rs.length := by omega
    have hl2' : ¬ (500 : Int) < qs.length := by omega
    have HH : Hid (∀ (W : World) (v : Value) (rs : List (Int × Int)), rs.length ≤ 1000 → Below w.heap.size w W → RA W v rs → Calls Tryz.prog 10 #[v, .int .i64 n, .int .i64 9] W fun e w' => e = .returned (.bool (sqIn rs n 9)) ∧ Below w.heap.size w w') := fun W v rs h1 hW h2 => (hH W v rs n 9 h1 hW h2).mono fun e w' h => ⟨h.1, hW.trans (h.2.mono hW.size)⟩
    clear hA hH
    obtain ⟨i0, hi, hz0, hz1, hz2⟩ := info_parts rgInfo
    go_enter Tryz.func5, Tryz.ntmps5
    go_wp2_with (first
      | (go_at_call 6; refine HA.out.mono ?_; rintro e w1 ⟨rfl, hb1⟩; replace hb1 := hide hb1)
      | (at_builtin; refine wpList_append_rw rfl _ _ 34 34 rfl 33 i0 (.agg #[.int .i64 0, .int .i64 0]) 2 16 Tryz.underlying34 hi hz0 hz1 hz2 rfl rfl (Rw.new (e := 33) [] [] (Blk.new _ _ _) rfl rfl (Nat.le_refl _) (Nat.zero_le _)) _ rs.length _ rfl (RA.src (HV.out.below (hb1.out.alloc hb1.out.size _))) (by simp only [maxLen]; omega) (by omega) ?_))
    intro v3 w3 G3 hr3 hm3 hg3
    have hs1 := hb1.out.size
    have hB3 : Below w.heap.size w w3 := (hb1.out.alloc hb1.out.size _).trans (hm3.below (fun k hk e => by omega) (hb1.out.alloc hb1.out.size _).size)
    have hG3 : ∀ g, G3 = some g → w.heap.size ≤ g := fun g e => by
      rcases hg3 with h | h
      · rw [h] at e; cases e; exact hs1
      · rw [h] at e; cases e; omega
    obtain ⟨A3, c3, rfl⟩ := hr3.form
    have HR3 := hide hr3
    have HB3 := hide hB3
    clear hr3 hB3 hm3 hg3
    go_wp2_with (at_builtin; refine wpList_append_rw rfl _ _ 34 34 rfl 33 i0 (.agg #[.int .i64 0, .int .i64 0]) 2 16 Tryz.underlying34 hi hz0 hz1 hz2 rfl rfl HR3.out _ qs.length _ rfl (RA.src (HU.out.below HB3.out)) (by simp only [maxLen]; omega) (by omega) ?_)
    intro v4 w4 G4 hr4 hm4 hg4
    rw [show rs.length + qs.length = (rs ++ qs).length from (List.length_append).symm, ← List.flatMap_append] at hr4
    have hB4 : Below w.heap.size w w4 := HB3.out.trans (hm4.below (fun k hk e => by have := hG3 k e.symm; omega) HB3.out.size)
    have H1 := HH.out w4 v4 (rs ++ qs) (by rw [List.length_append]; omega) hB4 (rw_ra hr4)
    have H2 : Hid (∀ W, Below w.heap.size w W → Calls Tryz.prog 10 #[.slice A1 rs.length c1, .int .i64 n, .int .i64 9] W fun e w' => e = .returned (.bool (sqIn rs n 9)) ∧ Below w.heap.size w w') := fun W hW => HH.out W _ rs (by omega) hW (HV.out.below hW)
    have H3 : Hid (∀ W, Below w.heap.size w W → Calls Tryz.prog 10 #[.slice A2 qs.length c2, .int .i64 n, .int .i64 9] W fun e w' => e = .returned (.bool (sqIn qs n 9)) ∧ Below w.heap.size w w') := fun W hW => HH.out W _ qs (by omega) hW (HU.out.below hW)
    rw [sqIn_app] at H1
    obtain ⟨A4, c4, rfl⟩ := hr4.form
    rw [List.length_append] at H1
    clear hi hz0 hz1 hz2 hr4 hm4 hg4 hG3 HH HR3
    generalize sqIn rs n 9 = p at *
    generalize sqIn qs n 9 = q at *
    replace H1 := hide H1
    have HB4 := hide hB4
    clear hB4
    cases p
    all_goals cases q
    all_goals go_wp2_with fail
    all_goals refine H1.out.mono ?_
    all_goals rintro e w5 ⟨rfl, hb5⟩
    all_goals replace hb5 := hide hb5
    all_goals go_wp2_with fail
    all_goals refine (H2.out _ hb5.out).mono ?_
    all_goals rintro e w6 ⟨rfl, hb6⟩
    all_goals replace hb6 := hide hb6
    all_goals go_wp2_with (go_at_call 10; refine (H3.out _ hb6.out).mono ?_; rintro e w7 ⟨rfl, hb7⟩; replace hb7 := hide hb7)
    all_goals go_ret
    all_goals first
      | exact ⟨rfl, hb7.out⟩
      | exact ⟨rfl, hb6.out⟩
  · have hb3 : (500 : Int) < rs.length ∨ (500 : Int) < qs.length := by omega
    clear hA hH
    go_enter Tryz.func5, Tryz.ntmps5
    go_wp2_with (go_at_call 6; refine HA.out.mono ?_; rintro e w1 ⟨rfl, hb1⟩; replace hb1 := hide hb1)
    all_goals go_ret
    all_goals exact ⟨rfl, hb1.out⟩
end Go.Proofs.YtbjencibkkhbhabGreatDoor
