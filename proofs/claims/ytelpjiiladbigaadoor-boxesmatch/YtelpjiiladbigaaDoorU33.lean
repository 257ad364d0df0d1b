/- The law BoxesMatch. -/
import Derived.Test.YtelpjiiladbigaaDoorU30
import Derived.Test.YtelpjiiladbigaaDoorU32
set_option linter.unusedSimpArgs false
set_option linter.unusedVariables false
namespace Go.Proofs.YtelpjiiladbigaaDoor
open Go.RowKit Go.Shelf Go.Sort
theorem tv_sv (xs : Nms) : xs.map tv = xs.map sv := rfl
set_option maxRecDepth 20000 in
set_option maxHeartbeats 4000000 in
theorem boxesMatch_walk {B : Nat} {w : World} (hM : MX B w) (hB : B ≤ w.heap.size) {v : Value} {xs : Nms} (hA : AR w v (xs.map tv)) (P : List UInt8) :
    Calls Tryd.prog 6 #[v, .string ⟨P.toArray⟩] w fun e w' => e = .returned (.bool true) ∧ Below w.heap.size w w' := by
  have HA := hide (alive13 hM hB)
  have hsz := size_lit P
  have HM := hide hM
  have HX := hide (ar_tx hA)
  have HAr := hide hA
  clear hM
  obtain ⟨A, c, rfl, _⟩ := ar_tx hA
  clear hA
  obtain ⟨i0, hi, hz0, hz1, hz2⟩ := info_three strInfo
  by_cases h1 : xs.length ≤ 60
  case neg =>
    have h1' : (60 : Int) < xs.length := by omega
    go_enter Tryd.func6, Tryd.ntmps6
    go_wp2_with (go_at_call 9; refine HA.out.mono ?_; rintro e w1 ⟨rfl, hb1⟩)
    go_ret
    exact ⟨rfl, hb1⟩
  have h1' : ¬ (60 : Int) < xs.length := by omega
  by_cases h2 : P.length ≤ 150
  case neg =>
    have h2' : (150 : Int) < P.length := by omega
    go_enter Tryd.func6, Tryd.ntmps6
    go_wp2_with (go_at_call 9; refine HA.out.mono ?_; rintro e w1 ⟨rfl, hb1⟩)
    go_ret
    exact ⟨rfl, hb1⟩
  have h2' : ¬ (150 : Int) < P.length := by omega
  go_enter Tryd.func6, Tryd.ntmps6
  go_wp2_with (go_at_call 9; refine HA.out.mono ?_; rintro e w1 ⟨rfl, hb1⟩; replace hb1 := hide hb1)
  go_loopw [21] (fun v21 wr => ∃ i : Nat, v21 = .int .i64 i ∧ i ≤ xs.length ∧ Hid (∀ n ∈ xs.take i, n.length ≤ 150) ∧ w1 = wr) (fun v21 _ => xs.length - (intOf v21).toNat)
  case atStart => exact ⟨0, rfl, Nat.zero_le _, (fun n h => by simp at h), rfl⟩
  case round =>
    obtain ⟨i, rfl, hi1, Hn, rfl⟩ := hrel
    by_cases hlt : i < xs.length
    · have hlt' : (i : Int) < xs.length := by omega
      obtain ⟨A', c', e', hcs⟩ := HX.out.below hb1.out
      cases e'
      obtain ⟨gx, ox, rfl, hgl, hcell⟩ := hcs i hlt
      have hz := size_lit xs[i]
      by_cases hxl : xs[i].length ≤ 150
      · have hxl' : ¬ (150 : Int) < xs[i].length := by omega
        have HN : Hid (∀ n ∈ xs.take (i + 1), n.length ≤ 150) := fun n h => by
          rw [List.take_succ_eq_append_getElem hlt, List.mem_append] at h
          rcases h with h | h
          · exact Hn.out n h
          · rw [List.mem_singleton] at h
            rw [h]
            exact hxl
        clear hcs
        generalize xs[i] = x at *
        go_wp2
        go_roundw
        case rel => exact ⟨i + 1, by go_num, by omega, HN.out, trivial⟩
        case measure => simp [intOf] <;> omega
      · have hxl' : (150 : Int) < xs[i].length := by omega
        clear hcs
        generalize xs[i] = x at *
        go_wp2
        go_ret
        exact ⟨rfl, hb1.out⟩
    · obtain rfl : i = xs.length := by omega
      have hn := Hn.out
      rw [List.take_length] at hn
      have HN := hide hn
      clear hn Hn
      have HMa : Hid (∀ (W : World) (u : Value), Below w.heap.size w W → TX W u xs → Calls Tryd.prog 22 #[u, .string ⟨P.toArray⟩] W fun e w' => ∃ A c, e = .returned (.slice A (matL (fitN P) xs).length c) ∧ Below W.heap.size W w' ∧ TX w' (.slice A (matL (fitN P) xs).length c) (matL (fitN P) xs)) := fun W u hW hu =>
        (match_any (HM.out.keep (hW.mono hB)) (Nat.le_trans hB hW.size) P (by omega) hu (by omega) (fun n h => Nat.le_trans (HN.out n h) (by omega))).mono fun e w' h => by
          obtain ⟨v', he, ht⟩ := h
          obtain ⟨A, c, rfl, _⟩ := id ht.tx
          exact ⟨A, c, he, ht.1, ht.tx⟩
      have HRa : Hid (∀ (W : World) (u : Value), TX W u xs → Calls Tryd.prog 23 #[u, .string ⟨P.toArray⟩] W fun e w' => ∃ A c, e = .returned (.slice A (matL (fitN P) xs).length c) ∧ Below W.heap.size W w' ∧ TX w' (.slice A (matL (fitN P) xs).length c) (matL (fitN P) xs)) := fun W u hu =>
        (rmatch_any P (by omega) hu (by omega) (fun n h => Nat.le_trans (HN.out n h) (by omega))).mono fun e w' h => by
          obtain ⟨v', he, ht⟩ := h
          obtain ⟨A, c, rfl, _⟩ := id ht.tx
          exact ⟨A, c, he, ht.1, ht.tx⟩
      have hml : (matL (fitN P) xs).length ≤ 1000000 := Nat.le_trans (matL_len _ _) (by omega)
      have HR0 : Hid (Rw (w1.alloc (.cells #[] 9)) 1 (.slice (some ⟨w1.heap.size, 0, none⟩) 0 0) 0 ([] : List Value) (some w1.heap.size)) := Rw.new (e := 9) [] [] (Blk.new _ _ _) rfl rfl (Nat.le_refl _) (Nat.zero_le _)
      have HS0 : Hid (Src Tryd.prog 1 33 (.slice A xs.length c) xs.length (xs.map sv) (w1.alloc (.cells #[] 9))) := by
        have h := (HAr.out.below (hb1.out)).below ((Below.refl _ w1).alloc (Nat.le_refl _) (.cells #[] 9))
        have h2 := h.src Tryd.underlying33 (sv_oneCell xs)
        rwa [List.length_map] at h2
      generalize matL (fitN P) xs = ms at *
      go_wp2_with (first
        | (at_builtin; refine wpList_append_rw rfl _ _ 33 33 rfl 9 i0 (.string ⟨#[]⟩) 1 16 Tryd.underlying33 hi hz0 hz1 hz2 rfl rfl HR0.out _ xs.length _ rfl HS0.out (by simp only [maxLen]; omega) (by omega) ?_))
      intro v4 w4 G4 hr4 hm4 hg4
      have HB4 : Hid (Below w1.heap.size w1 w4) := below_mvs ((Below.refl _ _).alloc (Nat.le_refl _) _) hm4 (fun k hk e => Nat.ne_of_lt hk (by simpa using e)) (Nat.le_refl _)
      have HT4 : Hid (TX w4 v4 xs) := by
        have ht : Texts w1 w4 v4 xs := ⟨HB4.out, G4, by simpa using hr4, fun g e => by
          rcases hg4 with h | h
          · rw [h] at e; cases e; exact Nat.le_refl _
          · rw [h] at e; cases e; simp⟩
        exact ht.tx
      obtain ⟨A4, c4, e4, _⟩ := id HT4.out
      subst e4
      have HW4 := hide (hb1.out.trans (HB4.out.mono hb1.out.size))
      clear hr4 hm4 hg4 HR0 HS0
      go_wp2_with (first
        | (go_at_call 22; refine (HMa.out _ _ HW4.out HT4.out).mono ?_; rintro e w5 ⟨A5, c5, rfl, hb5, ht5⟩; replace hb5 := hide hb5; replace ht5 := hide ht5)
        | (go_at_call 23; refine (HRa.out _ _ ((HX.out.below HW4.out).below hb5.out)).mono ?_; rintro e w6 ⟨A6, c6, rfl, hb6, ht6⟩; replace hb6 := hide hb6; replace ht6 := hide ht6))
      refine (tsame_yes _ (ht5.out.below hb6.out) ht6.out hml).mono ?_
      rintro e w7 ⟨rfl, n7, rfl⟩
      have HB7 : Hid (Below w4.heap.size w4 (w6.drewN n7)) := by
        have hX := hb5.out.trans (hb6.out.mono hb5.out.size)
        exact hX.trans ((bel_drewN w6 n7).mono hX.size)
      have HS2 : Hid (Calls Tryd.prog 20 #[.slice A4 xs.length c4, .slice A xs.length c] (w6.drewN n7) fun e w' => e = .returned (.bool true) ∧ ∃ n, w' = (w6.drewN n7).drewN n) := tsame_yes _ (HT4.out.below HB7.out) ((HX.out.below HW4.out).below HB7.out) (by omega)
      have hX6 := hb5.out.trans (hb6.out.mono hb5.out.size)
      have HX6 := hide (HW4.out.trans (hX6.mono HW4.out.size))
      clear hb5 hb6 ht5 ht6 hX6
      go_wp2_with fail
      refine HS2.out.mono ?_
      rintro e w8 ⟨rfl, n8, rfl⟩
      go_wp2
      go_ret
      exact ⟨rfl, HX6.out.trans ((bel_drewN w6 (n7 + n8)).mono HX6.out.size)⟩
end Go.Proofs.YtelpjiiladbigaaDoor
