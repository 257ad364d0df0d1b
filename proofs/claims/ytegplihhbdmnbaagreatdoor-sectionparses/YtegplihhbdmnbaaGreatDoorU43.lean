/- The document's Parse of sections: all of it. -/
import Derived.Test.YtegplihhbdmnbaaGreatDoorU42
set_option linter.unusedVariables false
set_option linter.unusedSimpArgs false
namespace Go.Proofs.YtegplihhbdmnbaaGreatDoor
open Go.RowKit Go.Shelf
set_option maxRecDepth 20000 in
set_option maxHeartbeats 8000000 in
theorem rparse_any (t : List UInt8) (w : World) (ht : t.length ≤ 2000) : Calls Tryz.prog 7 #[.string ⟨t.toArray⟩] w (DocOut w (docO t)) := by
  have hsz := size_lit t
  obtain ⟨i0, hi, hz0, hz1, hz2⟩ := seInfo seIntInfo
  obtain ⟨PATH, hPATH⟩ : ∃ P, (rdP (t.length + 1) t).1 = P := ⟨_, rfl⟩
  obtain ⟨REST, hREST⟩ : ∃ P, (rdP (t.length + 1) t).2 = P := ⟨_, rfl⟩
  have hPl : PATH.length ≤ 2000 := by rw [← hPATH]; have := rdP_le (t.length + 1) t; omega
  have HP0 : Hid (([] : List Int) ++ (rdP (t.length + 1) (t.drop 0)).1 = PATH ∧ (rdP (t.length + 1) (t.drop 0)).2 = REST ∧ (t.drop 0).length < t.length + 1) := ⟨hPATH, hREST, by simp⟩
  have HD0 : Hid (DP w ((w.alloc (.cells #[.slice none 0 0, .string ⟨#[]⟩, .slice none 0 0] 31)).alloc (.cells #[.slice none 0 0, .string ⟨#[]⟩, .slice none 0 0] 31)) #[.slice none 0 0, .string ⟨#[]⟩, .slice none 0 0]) := ⟨(Blk.new w _ _).alloc _, Blk.new1 w _ _ _, ((Below.refl _ _).alloc (Nat.le_refl _) _).alloc (by simp) _⟩
  go_enter Tryz.func7, Tryz.ntmps7
  go_upto_block 0 with fail
  go_cut [5] from 6 (fun v5 wq => ∃ (i : Nat) (pv : Value), i ≤ t.length ∧ v5 = .int .i64 i ∧ Hid (t.drop i = REST) ∧ Hid (RowOf siF 1 (w.heap.size + 2) wq pv PATH) ∧ Hid (DP w wq #[pv, .string ⟨#[]⟩, .slice none 0 0]))
  case first =>
    go_wp2_with fail
    go_loopw [5] (fun v5 wr => ∃ (i f : Nat) (q : List Int) (pv : Value), i ≤ t.length ∧ v5 = .int .i64 i ∧ q.length ≤ i ∧ Hid (q ++ (rdP f (t.drop i)).1 = PATH ∧ (rdP f (t.drop i)).2 = REST ∧ (t.drop i).length < f) ∧ Hid (RowOf siF 1 (w.heap.size + 2) wr pv q) ∧ Hid (DP w wr #[pv, .string ⟨#[]⟩, .slice none 0 0])) (fun v5 _ => t.length - (intOf v5).toNat)
    case atStart => exact ⟨0, t.length + 1, [], .slice none 0 0, Nat.zero_le _, rfl, Nat.zero_le _, HP0, RowOf.nil _ _ _ _, HD0⟩
    case round =>
      obtain ⟨i, f, q, pv, hil, rfl, hql, HQ, HR, HD⟩ := hrel
      clear HP0 HD0
      obtain ⟨A, cA, rfl⟩ := HR.out.form
      have hcO := HD.out.out.cell
      have hfO := HD.out.out.frozen
      have hlO := HD.out.out.lt
      have stop : (t.drop i = [] ∨ ∃ c r, t.drop i = c :: r ∧ dgB c = false) → Hid (q = PATH ∧ t.drop i = REST) := fun h => by
        obtain ⟨h1, h2, h3⟩ := HQ.out
        cases f with
        | zero => omega
        | succ f =>
          rcases h with h | ⟨c, r, h, hc⟩
          · rw [h] at h1 h2 ⊢
            simp only [rdP, List.append_nil] at h1 h2
            exact ⟨h1, h2⟩
          · rw [h] at h1 h2 ⊢
            rw [rdP, if_neg (by rw [hc]; simp)] at h1 h2
            rw [List.append_nil] at h1
            exact ⟨h1, h2⟩
      by_cases hdig : ∃ (h : i < t.length), dgB t[i] = true
      · obtain ⟨hlt, hd⟩ := hdig
        clear stop
        obtain ⟨c0, hc0, hat0⟩ := sf_at t i hlt
        rw [hc0] at hd
        obtain ⟨kd1, kd2⟩ := dg_nat hd
        have k1 : (c0.toNat : Int) ≥ 48 := by omega
        have k2 : (c0.toNat : Int) ≤ 57 := by omega
        have hlt' : (i : Int) < t.length := by omega
        have HDR : Hid (t.drop i = c0 :: t.drop (i + 1) ∧ dgB c0 = true) := ⟨by rw [drop_cons hlt, hc0], hd⟩
        clear hc0 hd
        go_wp2
        go_loop [5, 6] (fun v5 v6 => ∃ j n : Nat, i ≤ j ∧ j ≤ t.length ∧ n ≤ 100009 ∧ v5 = .int .i64 j ∧ v6 = .int .i64 n ∧ (j = i → n = 0) ∧ Hid (rdN n (t.drop j) = rdN 0 (t.drop i))) (fun v5 _ => t.length - (intOf v5).toNat)
        case atStart => exact ⟨i, 0, Nat.le_refl _, hil, Nat.zero_le _, rfl, rfl, (fun _ => rfl), rfl⟩
        case round =>
          obtain ⟨j, n, hij, hjl, hnl, rfl, rfl, hji, HN⟩ := hrel
          clear hat0 k1 k2 hlt'
          replace hji := hide hji
          have fin : rdN n (t.drop j) = (n, t.drop j) → i < j → ∀ i', j ≤ i' → t.drop i' = dotS (t.drop j) → i' ≤ t.length → ∃ f', Hid ((q ++ [(n : Int)]) ++ (rdP f' (t.drop i')).1 = PATH ∧ (rdP f' (t.drop i')).2 = REST ∧ (t.drop i').length < f') := fun h1 h2 i' h3 h4 h5 => by
            obtain ⟨g1, g2, g3⟩ := HQ.out
            rw [HN.out] at h1
            obtain ⟨d1, d2⟩ := HDR.out
            cases f with
            | zero => omega
            | succ f =>
              rw [d1] at g1 g2 h1
              rw [rdP, if_pos d2, h1] at g1 g2
              simp only at g1 g2
              rw [← h4] at g1 g2
              refine ⟨f, ?_, g2, ?_⟩
              · rw [List.append_assoc]
                exact g1
              · rw [List.length_drop] at g3 ⊢
                omega
          by_cases hj : j < t.length
          · have hj' : (j : Int) < t.length := by omega
            obtain ⟨c, hc, hat⟩ := sf_at t j hj
            have hdj : t.drop j = c :: t.drop (j + 1) := by rw [drop_cons hj, hc]
            cases hdg : dgB c with
            | true =>
              obtain ⟨e1, e2⟩ := dg_nat hdg
              have l1 : (c.toNat : Int) ≥ 48 := by omega
              have l2 : (c.toNat : Int) ≤ 57 := by omega
              by_cases hn : n < 10000
              · have l3 : (n : Int) < 10000 := by omega
                have HN2 : Hid (rdN (stD n c) (t.drop (j + 1)) = rdN 0 (t.drop i)) := by
                  show _ = _
                  rw [← HN.out, hdj, rdN, if_pos ⟨hdg, hn⟩]
                have hst : (10 : Int) * n + ((c.toNat : Int) - 48) = (stD n c : Nat) := by
                  unfold stD
                  omega
                have hsl : stD n c ≤ 100009 := by unfold stD; omega
                clear hc hdj fin hdg
                generalize stD n c = n2 at *
                go_wp2
                go_round
                case rel => exact ⟨j + 1, n2, by omega, by omega, hsl, by go_num, by first | exact congrArg _ hst | (rw [← hst]), (fun e => by omega), HN2⟩
                case measure => simp [intOf]; omega
              · have l3 : ¬ (n : Int) < 10000 := by omega
                have hh : rdN n (t.drop j) = (n, t.drop j) := by rw [hdj, rdN, if_neg (fun e => hn e.2)]
                have hdot : dotS (t.drop j) = t.drop j := by rw [hdj, dotS, if_neg (dg_46 hdg)]
                have hij' : i < j := by
                  have := hji.out
                  rcases Nat.lt_or_ge i j with h | h
                  · exact h
                  · have := this (by omega)
                    omega
                obtain ⟨f', HF⟩ := fin hh hij' j (Nat.le_refl _) hdot.symm hjl
                have l4 : ((c.toNat : Int) == 46) = false := by rw [beq_eq_false_iff_ne]; omega
                clear hc hdj fin hdg hh hdot
                obtain ⟨G, hr, hG⟩ := HR.out
                replace hr := hide hr
                replace hG := hide hG
                go_wp2_with (at_builtin; refine wpList_append_rw rfl _ _ 23 23 rfl 3 i0 (.int .i64 0) 1 8 Tryz.underlying23 hi hz0 hz1 hz2 rfl rfl (hr.out.keep (S := fun _ => False) ((Mvs.refl _ _).alloc _) (fun _ _ c => c)) _ 1 [.int .i64 (n : Int)] rfl (seSrcInt (n : Int) rfl) (by simp only [maxLen]; omega) (by omega) ?_)
                intro v3 w3 G3 hr3 hm3 hg3
                have HP3 : Hid (RowOf siF 1 (w.heap.size + 2) w3 v3 (q ++ [(n : Int)])) := RowOf.growN hG.out hr3 hg3 (by simp; omega)
                have HD3 : Hid (DP w w3 #[.slice A q.length cA, .string ⟨#[]⟩, .slice none 0 0]) := (HD.out.below ((Below.refl _ _).alloc (Nat.le_refl _) _)).mvs hm3 (fun k hk e => by have := hG.out k e.symm; omega)
                obtain ⟨A3, c3, hv3⟩ := HP3.out.form; rw [show (q ++ [(n : Int)]).length = q.length + 1 by simp] at hv3; subst hv3
                have hcO3 := HD3.out.out.cell
                have hfO3 := HD3.out.out.frozen
                have hlO3 := HD3.out.out.lt
                clear hr3 hm3 hg3 hcO hfO
                go_wp2
                go_roundw
                case rel => exact ⟨j, f', q ++ [(n : Int)], _, by omega, by go_num, by rw [List.length_append]; simp; omega, HF, HP3.out.set_low ⟨w.heap.size + 1, 0, none⟩ _ (by dsimp only; omega), HD3.out.set 0 _⟩
                case measure => simp [intOf]; omega
            | false =>
              have hh : rdN n (t.drop j) = (n, t.drop j) := by rw [hdj, rdN, if_neg (fun e => by rw [hdg] at e; exact absurd e.1 (by simp))]
              have hij' : i < j := by
                rcases Nat.lt_or_ge i j with h | h
                · exact h
                · obtain ⟨d1, d2⟩ := HDR.out
                  have : j = i := by omega
                  subst this
                  rw [hdj] at d1
                  injection d1 with d1 _
                  rw [d1, d2] at hdg
                  cases hdg
              rcases dg_not hdg with hlo | hhi
              · have l1 : ¬ (c.toNat : Int) ≥ 48 := by omega
                by_cases h46 : c = 46
                · have hdot : dotS (t.drop j) = t.drop (j + 1) := by rw [hdj, dotS, if_pos h46]
                  obtain ⟨f', HF⟩ := fin hh hij' (j + 1) (by omega) hdot.symm (by omega)
                  subst h46
                  clear hc hdj fin hdg hh hdot
                  obtain ⟨G, hr, hG⟩ := HR.out
                  replace hr := hide hr
                  replace hG := hide hG
                  go_wp2_with (at_builtin; refine wpList_append_rw rfl _ _ 23 23 rfl 3 i0 (.int .i64 0) 1 8 Tryz.underlying23 hi hz0 hz1 hz2 rfl rfl (hr.out.keep (S := fun _ => False) ((Mvs.refl _ _).alloc _) (fun _ _ c => c)) _ 1 [.int .i64 (n : Int)] rfl (seSrcInt (n : Int) rfl) (by simp only [maxLen]; omega) (by omega) ?_)
                  intro v3 w3 G3 hr3 hm3 hg3
                  have HP3 : Hid (RowOf siF 1 (w.heap.size + 2) w3 v3 (q ++ [(n : Int)])) := RowOf.growN hG.out hr3 hg3 (by simp; omega)
                  have HD3 : Hid (DP w w3 #[.slice A q.length cA, .string ⟨#[]⟩, .slice none 0 0]) := (HD.out.below ((Below.refl _ _).alloc (Nat.le_refl _) _)).mvs hm3 (fun k hk e => by have := hG.out k e.symm; omega)
                  obtain ⟨A3, c3, hv3⟩ := HP3.out.form; rw [show (q ++ [(n : Int)]).length = q.length + 1 by simp] at hv3; subst hv3
                  have hcO3 := HD3.out.out.cell
                  have hfO3 := HD3.out.out.frozen
                  have hlO3 := HD3.out.out.lt
                  clear hr3 hm3 hg3 hcO hfO
                  go_wp2
                  go_roundw
                  case rel => exact ⟨j + 1, f', q ++ [(n : Int)], _, by omega, by go_num, by rw [List.length_append]; simp; omega, HF, HP3.out.set_low ⟨w.heap.size + 1, 0, none⟩ _ (by dsimp only; omega), HD3.out.set 0 _⟩
                  case measure => simp [intOf]; omega
                · have hdot : dotS (t.drop j) = t.drop j := by rw [hdj, dotS, if_neg h46]
                  obtain ⟨f', HF⟩ := fin hh hij' j (Nat.le_refl _) hdot.symm hjl
                  have l4 : ((c.toNat : Int) == 46) = false := by rw [beq_eq_false_iff_ne]; exact fun e => h46 (UInt8.toNat_inj.1 (Int.ofNat.inj e))
                  clear hc hdj fin hdg hh hdot h46
                  obtain ⟨G, hr, hG⟩ := HR.out
                  replace hr := hide hr
                  replace hG := hide hG
                  go_wp2_with (at_builtin; refine wpList_append_rw rfl _ _ 23 23 rfl 3 i0 (.int .i64 0) 1 8 Tryz.underlying23 hi hz0 hz1 hz2 rfl rfl (hr.out.keep (S := fun _ => False) ((Mvs.refl _ _).alloc _) (fun _ _ c => c)) _ 1 [.int .i64 (n : Int)] rfl (seSrcInt (n : Int) rfl) (by simp only [maxLen]; omega) (by omega) ?_)
                  intro v3 w3 G3 hr3 hm3 hg3
                  have HP3 : Hid (RowOf siF 1 (w.heap.size + 2) w3 v3 (q ++ [(n : Int)])) := RowOf.growN hG.out hr3 hg3 (by simp; omega)
                  have HD3 : Hid (DP w w3 #[.slice A q.length cA, .string ⟨#[]⟩, .slice none 0 0]) := (HD.out.below ((Below.refl _ _).alloc (Nat.le_refl _) _)).mvs hm3 (fun k hk e => by have := hG.out k e.symm; omega)
                  obtain ⟨A3, c3, hv3⟩ := HP3.out.form; rw [show (q ++ [(n : Int)]).length = q.length + 1 by simp] at hv3; subst hv3
                  have hcO3 := HD3.out.out.cell
                  have hfO3 := HD3.out.out.frozen
                  have hlO3 := HD3.out.out.lt
                  clear hr3 hm3 hg3 hcO hfO
                  go_wp2
                  go_roundw
                  case rel => exact ⟨j, f', q ++ [(n : Int)], _, by omega, by go_num, by rw [List.length_append]; simp; omega, HF, HP3.out.set_low ⟨w.heap.size + 1, 0, none⟩ _ (by dsimp only; omega), HD3.out.set 0 _⟩
                  case measure => simp [intOf]; omega
              · have l1 : (c.toNat : Int) ≥ 48 := by omega
                have l2 : ¬ (c.toNat : Int) ≤ 57 := by omega
                have hdot : dotS (t.drop j) = t.drop j := by rw [hdj, dotS, if_neg (fun e => by rw [e] at hhi; exact absurd hhi (by decide))]
                obtain ⟨f', HF⟩ := fin hh hij' j (Nat.le_refl _) hdot.symm hjl
                have l4 : ((c.toNat : Int) == 46) = false := by rw [beq_eq_false_iff_ne]; omega
                clear hc hdj fin hdg hh hdot
                obtain ⟨G, hr, hG⟩ := HR.out
                replace hr := hide hr
                replace hG := hide hG
                go_wp2_with (at_builtin; refine wpList_append_rw rfl _ _ 23 23 rfl 3 i0 (.int .i64 0) 1 8 Tryz.underlying23 hi hz0 hz1 hz2 rfl rfl (hr.out.keep (S := fun _ => False) ((Mvs.refl _ _).alloc _) (fun _ _ c => c)) _ 1 [.int .i64 (n : Int)] rfl (seSrcInt (n : Int) rfl) (by simp only [maxLen]; omega) (by omega) ?_)
                intro v3 w3 G3 hr3 hm3 hg3
                have HP3 : Hid (RowOf siF 1 (w.heap.size + 2) w3 v3 (q ++ [(n : Int)])) := RowOf.growN hG.out hr3 hg3 (by simp; omega)
                have HD3 : Hid (DP w w3 #[.slice A q.length cA, .string ⟨#[]⟩, .slice none 0 0]) := (HD.out.below ((Below.refl _ _).alloc (Nat.le_refl _) _)).mvs hm3 (fun k hk e => by have := hG.out k e.symm; omega)
                obtain ⟨A3, c3, hv3⟩ := HP3.out.form; rw [show (q ++ [(n : Int)]).length = q.length + 1 by simp] at hv3; subst hv3
                have hcO3 := HD3.out.out.cell
                have hfO3 := HD3.out.out.frozen
                have hlO3 := HD3.out.out.lt
                clear hr3 hm3 hg3 hcO hfO
                go_wp2
                go_roundw
                case rel => exact ⟨j, f', q ++ [(n : Int)], _, by omega, by go_num, by rw [List.length_append]; simp; omega, HF, HP3.out.set_low ⟨w.heap.size + 1, 0, none⟩ _ (by dsimp only; omega), HD3.out.set 0 _⟩
                case measure => simp [intOf]; omega
          · have hj' : ¬ (j : Int) < t.length := by omega
            have hd0 : t.drop j = [] := List.drop_of_length_le (by omega)
            have hh : rdN n (t.drop j) = (n, t.drop j) := by rw [hd0]; rfl
            have hdot : dotS (t.drop j) = t.drop j := by rw [hd0]; rfl
            obtain ⟨f', HF⟩ := fin hh (by omega) j (Nat.le_refl _) hdot.symm hjl
            have hij' : i < j := by omega
            clear fin hh hdot hd0
            obtain ⟨G, hr, hG⟩ := HR.out
            replace hr := hide hr
            replace hG := hide hG
            go_wp2_with (at_builtin; refine wpList_append_rw rfl _ _ 23 23 rfl 3 i0 (.int .i64 0) 1 8 Tryz.underlying23 hi hz0 hz1 hz2 rfl rfl (hr.out.keep (S := fun _ => False) ((Mvs.refl _ _).alloc _) (fun _ _ c => c)) _ 1 [.int .i64 (n : Int)] rfl (seSrcInt (n : Int) rfl) (by simp only [maxLen]; omega) (by omega) ?_)
            intro v3 w3 G3 hr3 hm3 hg3
            have HP3 : Hid (RowOf siF 1 (w.heap.size + 2) w3 v3 (q ++ [(n : Int)])) := RowOf.growN hG.out hr3 hg3 (by simp; omega)
            have HD3 : Hid (DP w w3 #[.slice A q.length cA, .string ⟨#[]⟩, .slice none 0 0]) := (HD.out.below ((Below.refl _ _).alloc (Nat.le_refl _) _)).mvs hm3 (fun k hk e => by have := hG.out k e.symm; omega)
            obtain ⟨A3, c3, hv3⟩ := HP3.out.form; rw [show (q ++ [(n : Int)]).length = q.length + 1 by simp] at hv3; subst hv3
            have hcO3 := HD3.out.out.cell
            have hfO3 := HD3.out.out.frozen
            have hlO3 := HD3.out.out.lt
            clear hr3 hm3 hg3 hcO hfO
            go_wp2
            go_roundw
            case rel => exact ⟨j, f', q ++ [(n : Int)], _, by omega, by go_num, by rw [List.length_append]; simp; omega, HF, HP3.out.set_low ⟨w.heap.size + 1, 0, none⟩ _ (by dsimp only; omega), HD3.out.set 0 _⟩
            case measure => simp [intOf]; omega
      · have hstop : t.drop i = [] ∨ ∃ c r, t.drop i = c :: r ∧ dgB c = false := by
          by_cases hlt : i < t.length
          · right
            refine ⟨t[i], t.drop (i + 1), drop_cons hlt, ?_⟩
            cases hd : dgB t[i] with
            | false => rfl
            | true => exact absurd ⟨hlt, hd⟩ hdig
          · exact .inl (List.drop_of_length_le (by omega))
        have HST := stop hstop
        have HR2 : Hid (RowOf siF 1 (w.heap.size + 2) wr (.slice A q.length cA) PATH) := HST.out.1 ▸ HR.out
        have HT2 : Hid (t.drop i = REST) := HST.out.2
        clear stop hcO hfO hstop
        by_cases hlt : i < t.length
        · have hlt' : (i : Int) < t.length := by omega
          obtain ⟨c, hc, hat⟩ := sf_at t i hlt
          have hdg : dgB c = false := by
            cases hd : dgB c with
            | false => rfl
            | true => exact absurd ⟨hlt, hc ▸ hd⟩ hdig
          clear hdig hc
          rcases dg_not hdg with hlo | hhi
          · have l1 : ¬ (c.toNat : Int) ≥ 48 := by omega
            clear hdg
            go_wp2
            go_meet
            case rel => exact ⟨i, .slice A q.length cA, hil, rfl, HT2, HR2, HD⟩
          · have l1 : (c.toNat : Int) ≥ 48 := by omega
            have l2 : ¬ (c.toNat : Int) ≤ 57 := by omega
            clear hdg
            go_wp2
            go_meet
            case rel => exact ⟨i, .slice A q.length cA, hil, rfl, HT2, HR2, HD⟩
        · have hlt' : ¬ (i : Int) < t.length := by omega
          clear hdig
          go_wp2
          go_meet
          case rel => exact ⟨i, .slice A q.length cA, hil, rfl, HT2, HR2, HD⟩
  case rest =>
    obtain ⟨i, pv, hil, rfl, HT, HR, HD⟩ := hcut
    clear HP0 HD0
    obtain ⟨A, cA, rfl⟩ := HR.out.form
    have hrl : REST.length = t.length - i := by rw [← HT.out, List.length_drop]
    obtain ⟨q1, q2, q3⟩ := tw_len REST not32
    obtain ⟨wl, hwl⟩ : ∃ n, (REST.takeWhile not32).length = n := ⟨_, rfl⟩
    rw [hwl] at q1 q2 q3
    have hKl : i + wl ≤ t.length := by omega
    have HW1 : Hid ((t.drop i).take wl = REST.takeWhile not32) := by show _ = _; rw [HT.out]; exact q1
    have HW2 : Hid (t.drop (i + wl) = REST.dropWhile not32) := by show _ = _; rw [← List.drop_drop, HT.out]; exact q2
    clear q1 q2 q3
    go_upto_block 4 with fail
    go_cut [7] from 8 (fun v7 wq => wc = wq ∧ v7 = .int .i64 ((i + wl : Nat) : Int))
    case first =>
      go_wp2_with fail
      go_loop [7] (fun v7 => ∃ k : Nat, i ≤ k ∧ k ≤ t.length ∧ v7 = .int .i64 k ∧ Hid (k + ((t.drop k).takeWhile not32).length = i + wl)) (fun v7 => t.length - (intOf v7).toNat)
      case atStart => exact ⟨i, Nat.le_refl _, hil, rfl, by show _ = _; rw [HT.out, hwl]⟩
      case round =>
        obtain ⟨k, hik, hkl, rfl, HK⟩ := hrel
        by_cases hlt : k < t.length
        · have hlt' : (k : Int) < t.length := by omega
          obtain ⟨c, hc, hat⟩ := sf_at t k hlt
          have hdk : t.drop k = c :: t.drop (k + 1) := by rw [drop_cons hlt, hc]
          by_cases h32 : c = 32
          · have hke : k = i + wl := by
              have := HK.out
              rw [hdk, h32] at this
              simp [not32] at this
              exact this
            subst h32
            clear hc hdk HK
            subst hke
            go_wp2
            go_meet
            case rel => exact ⟨rfl, rfl⟩
          · have HK2 : Hid (k + 1 + ((t.drop (k + 1)).takeWhile not32).length = i + wl) := by
              have := HK.out
              have hp : not32 c = true := by simp [not32, h32]
              rw [hdk, List.takeWhile_cons_of_pos hp, List.length_cons] at this
              show _ = _
              omega
            have l1 : ((c.toNat : Int) != 32) = true := by
              rw [bne_iff_ne]
              exact fun e => h32 (UInt8.toNat_inj.1 (Int.ofNat.inj e))
            have l2 : ¬ ((c.toNat : Int) = 32) := fun e => h32 (UInt8.toNat_inj.1 (Int.ofNat.inj e))
            clear hc hdk HK h32
            go_wp2
            go_round
            case rel => exact ⟨k + 1, by omega, by omega, by go_num, HK2⟩
            case measure => simp [intOf]; omega
        · have hlt' : ¬ (k : Int) < t.length := by omega
          have hke : k = i + wl := by
            have := HK.out
            rw [List.drop_of_length_le (by omega)] at this
            simpa using this
          clear HK
          subst hke
          go_wp2
          go_meet
          case rel => exact ⟨rfl, rfl⟩
    case rest =>
      obtain ⟨hww, rfl⟩ := hcut
      subst hww
      obtain ⟨K, hK⟩ : ∃ K, i + wl = K := ⟨_, rfl⟩
      have hKi : K - i = wl := by omega
      rw [hK] at hKl HW2 ⊢
      obtain ⟨word, hword⟩ : ∃ x, REST.takeWhile not32 = x := ⟨_, rfl⟩
      obtain ⟨CC, hCC⟩ : ∃ x, REST.dropWhile not32 = x := ⟨_, rfl⟩
      rw [hword] at HW1 hwl
      rw [hCC] at HW2
      have hs14 := sl2 t i K (by omega) hKl
      rw [hKi, HW1.out] at hs14
      have HLG := hide (fun W => rlarge_any word W (by omega))
      obtain ⟨WH, hWH⟩ : ∃ x, word.map upB = x := ⟨_, rfl⟩
      rw [hWH] at HLG
      have hiK : i ≤ K := by omega
      have HSP : Hid (docS t = ⟨PATH, WH, rdL CC⟩) := by
        show _ = _
        unfold docS
        rw [hPATH, hREST, hword, hCC, hWH]
      have HDI : Hid (docI t = i) := by
        show _ = _
        unfold docI
        rw [hREST]
        omega
      have HCC : Hid ((rdP (t.length + 1) t).2.dropWhile not32 = CC) := by show _ = _; rw [hREST, hCC]
      have HWL : Hid (WH.length = K - i) := by show _ = _; rw [← hWH, List.length_map, hwl]; omega
      have HWU : Hid (word.map upB = WH) := hWH
      have HLOP := hide HR.out.lo
      have hwK : K - i = wl := hKi
      clear hword hCC hPATH hREST hWH hKi hwl hK
      have HDO : Hid (docO t = if rgtB ⟨PATH, WH, rdL CC⟩ = true ∧ secT ⟨PATH, WH, rdL CC⟩ = t.take i ++ (WH ++ t.drop K) then some ⟨PATH, WH, rdL CC⟩ else none) := by
        show _ = _
        unfold docO
        rw [HSP.out, HDI.out, HCC.out, HW2.out]
      go_upto_region 14 with fail
      go_cut [7] from 8 (fun v7 wq => v7 = .int .i64 (K : Nat) ∧ Hid (DP w wq #[.slice A PATH.length cA, .string ⟨WH.toArray⟩, .slice none 0 0]) ∧ Hid (RowOf siF 1 (w.heap.size + 2) wq (.slice A PATH.length cA) PATH))
      case first =>
        go_wp2_with (first
          | (go_at_call 24; refine (HLG.out _).mono ?_; rintro e w1 ⟨rfl, hb1⟩; have HD1 := hide (HD.out.below hb1); have HR1 := hide (HR.out.below hb1); have hc1 := HD1.out.out.cell; have hf1 := HD1.out.out.frozen; have hl1 := HD1.out.out.lt; clear hb1))
        go_meet
        case rel => exact ⟨rfl, HD1.out.set 1 (.string ⟨WH.toArray⟩), HR1.out.set_low ⟨w.heap.size + 1, 1, none⟩ (.string ⟨WH.toArray⟩) (by dsimp only; omega)⟩
      case rest =>
        obtain ⟨rfl, HD2, HR2⟩ := hcut
        apply_assumption
        exact rparse_names t word WH PATH i K wl A cA w _ ht hPl hiK hKl hwK HW1 HWU HWL HLOP CC HW2 HD2 HR2 HDO _ _ _ _ _ _ _ _ _ _ _ _ _ _ _ _ _ _ _ _ _ _ _ _ _ _ _ _ _ _ _ _ _ _ _ _ _ _ _ _ _ _ _ _ _ _ _ _ _ _ _ _ _ _ _ _ _ _ _ _ _ _ _ _ _ _ _ _ _ _ _ _ _ _ _ _ _ _ _ _ _ _ _ _ _ _ _ _ _ _ _ _ _ _ _ _ _ _ _ _ _ _ _ _ _ _ _ _ _ _ _ _ _ _ _ _ _ _ _ _ _ _ _ _ _ _ _ _ _ _ _ _ _ _ _ _ _ _ _ _ _ _ _ _ _ _ _ _ _ _ _ _ _ _ _ _ _ _ _ _ _ _ _ _ _ _ _ _ _ _ _ _ _ _ 
end Go.Proofs.YtegplihhbdmnbaaGreatDoor
