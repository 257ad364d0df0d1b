/- The document's Set of layer 14, of any text. -/
import Derived.Test.YtbjencibkkhbhaaGreatDoorSq6
set_option linter.unusedSimpArgs false
set_option linter.unusedVariables false
namespace Go.Proofs.YtbjencibkkhbhaaGreatDoor
open Go.RowKit Go.Shelf
/-- What Cut has made, as it is read. -/
def Cu (W w' : World) (A : Option Addr) (l : List (List UInt8)) : Prop := Below W.heap.size W w' ∧ ∀ k (hk : k < l.length), ∃ g o, A = some ⟨g, o, none⟩ ∧ (W.heap.size ≤ g ∧ g < w'.heap.size) ∧ w'.cell? ⟨g, o + k, none⟩ = some (.string ⟨l[k].toArray⟩)
theorem cut_cu (s : List UInt8) (c : UInt8) (W : World) (hs : s.length ≤ 1000000) : Calls Tryz.prog 28 #[.string ⟨s.toArray⟩, .int .u8 (c.toNat : Nat)] W fun e w' => ∃ A cp, e = .returned (.slice A (spc c s).length cp) ∧ Cu W w' A (spc c s) := (rcut_any s c W hs).mono fun e w' h => by
  obtain ⟨v, he, hb, G, hr, hg⟩ := h
  obtain ⟨A, cp, rfl⟩ := hr.form
  refine ⟨A, cp, he, hb, fun k hk => ?_⟩
  rcases hr.2 with ⟨_, h0, _⟩ | ⟨g, o, cap, eG, e, _, _, h3, h4, _⟩
  · omega
  · exact ⟨g, o, by cases e; rfl, ⟨hg g eG, h3⟩, h4 k _ (by rw [List.getElem?_map, List.getElem?_eq_getElem hk]; rfl)⟩
set_option maxRecDepth 20000 in
set_option maxHeartbeats 4000000 in
theorem rset_any (s : List UInt8) (w : World) (hs : s.length ≤ 100000) : Calls Tryz.prog 11 #[.string ⟨s.toArray⟩] w (SetOut w (sqS s)) := by
  have hsz := size_lit s
  obtain ⟨i0, hi, hz0, hz1, hz2⟩ := info_three intInfo14
  obtain ⟨j0, hj, hy0, hy1, hy2⟩ := info_three rgInfo
  have HC := hide (fun W => cut_cu s 44 W (by omega))
  have HIl : Hid (∀ x ∈ spc 44 s, x.length ≤ 100000) := fun x hx => Nat.le_trans (spc_size s x hx) hs
  have hitl : (spc 44 s).length ≤ 100001 := by have := spc_len 44 s; omega
  have HNo : Hid (sqS s = none → ∀ w', Below w.heap.size w w' → SetOut w (sqS s) (.returned (.tuple #[.slice none 0 0, .bool false])) w') := fun h w' hb => by rw [h]; exact ⟨hb, rfl⟩
  have HYs : Hid (∀ out, (spc 44 s).length ≤ 50 → (spc 44 s).mapM sqI = some out → sqS s = some out) := fun out h1 h2 => by unfold sqS; rw [if_pos h1, h2]
  have HN1 : Hid (50 < (spc 44 s).length → sqS s = none) := fun h => by unfold sqS; rw [if_neg (by omega)]
  have HN2 : Hid ((spc 44 s).mapM sqI = none → sqS s = none) := fun h => by unfold sqS; rw [h]; split <;> rfl
  obtain ⟨its, hits⟩ : ∃ its, spc 44 s = its := ⟨_, rfl⟩
  rw [hits] at HC HIl hitl HYs HN1 HN2
  clear hits
  obtain ⟨W0, HW0⟩ : ∃ W0, Hid (w.alloc (.cells #[] 53) = W0) := ⟨_, hide rfl⟩
  have HB0 : Hid (Below w.heap.size w W0) := by show Below _ _ _; rw [← HW0.out]; exact (Below.refl _ _).alloc (Nat.le_refl _) _
  have hW0s : W0.heap.size = w.heap.size + 1 := by rw [← HW0.out]; simp
  have HR0 : Hid (Rw W0 2 (.slice (some ⟨w.heap.size, 0, none⟩) 0 0) 0 ([] : List Value) (some w.heap.size)) := by show Rw _ _ _ _ _ _; rw [← HW0.out]; exact Rw.new (e := 53) [] [] (Blk.new _ _ _) rfl rfl (Nat.le_refl _) (Nat.zero_le _)
  have HW0S := hide hW0s
  clear hW0s
  go_enter Tryz.func11, Tryz.ntmps11
  go_wp2_with (go_at_call 28; rw [HW0.out]; refine (HC.out _).mono ?_; rintro e w1 ⟨Ai, ci, rfl, hcu⟩; replace hcu := hide hcu)
  have hbw : w.heap.size < w1.heap.size := by have := hcu.out.1.size; have := HW0S.out; omega
  go_loopw [4, 16] (fun v4 v16 wr => ∃ (k : Nat) (out : List (Nat × Nat)), v16 = .int .i64 k ∧ k ≤ its.length ∧ k ≤ 50 ∧ Hid (out.length = k) ∧ Hid ((its.take k).mapM sqI = some out) ∧ Hid (Rs w.heap.size w1.heap.size w1 wr v4 (out.map natR))) (fun _ v16 _ => its.length - (intOf v16).toNat)
  case atStart => exact ⟨0, [], rfl, Nat.zero_le _, Nat.zero_le _, rfl, rfl, Mvs.refl _ _, some w.heap.size, HR0.out.keep (S := fun _ => False) (Mvs.of_below hcu.out.1) (fun _ _ c => c), (fun g e => by cases e; exact .inl rfl)⟩
  case round =>
    obtain ⟨k, out, rfl, hk, hk50, HOl, HOm, HR⟩ := hrel
    have HBw : Hid (Below w.heap.size w wr) := by
      have h := HB0.out.trans (hcu.out.1.mono HB0.out.size)
      exact below_mvs h HR.out.1 (fun k hk e => by have e' : k = w.heap.size := e; omega) (Nat.le_refl _)
    by_cases hlt : k < its.length
    · have hlt' : (k : Int) < its.length := by omega
      obtain ⟨gi, oi, rfl, hgi, hci0⟩ := hcu.out.2 k hlt
      have hne : gi ≠ w.heap.size := by have := HW0S.out; omega
      have hci := (HR.out.1.cell (a := ⟨gi, oi + k, none⟩) hgi.2 hne).trans hci0
      have hxl := HIl.out _ (List.getElem_mem hlt)
      obtain ⟨x, hx⟩ : ∃ x, its[k] = x := ⟨_, rfl⟩
      rw [hx] at hci hxl
      have HX : Hid (its[k] = x) := hx
      obtain ⟨A4, c4, e4⟩ := HR.out.2.choose_spec.1.form
      rw [List.length_map, HOl.out] at e4
      subst e4
      have HCx := hide (fun W => cut_cu x 58 W (by omega))
      have hll : (spc 58 x).length ≤ 100001 := by have := spc_len 58 x; omega
      have HLl : Hid (∀ t ∈ spc 58 x, t.length ≤ 1000000) := fun t ht => by have := spc_size x t ht; omega
      have HBad : Hid (sqI x = none → sqS s = none) := fun h => HN2.out (mapM_none its k hlt (by rw [hx]; exact h))
      have HLong := hide (sqI_long (item := x))
      have HBd := hide (fun j => sqI_bad (item := x) (j := j))
      have HGd := hide (sqI_good (item := x))
      have hlne := spc_ne 58 x
      clear hx hci0
      obtain ⟨l, hl⟩ : ∃ l, spc 58 x = l := ⟨_, rfl⟩
      rw [hl] at HCx hll HLl HLong HBd HGd hlne
      clear hl
      by_cases hl2 : 2 < l.length
      · have hl2' : (2 : Int) < l.length := by omega
        have HS := hide (HNo.out (HBad.out (HLong.out hl2)))
        go_wp2_with (go_at_call 28; refine (HCx.out _).mono ?_; rintro e w2 ⟨Al, cl, rfl, hcl⟩; replace hcl := hide hcl)
        exact bodyPost_ret (v := .tuple #[.slice none 0 0, .bool false]) (by simp [results, Tryz.results11, go_sem]) rfl (HS.out _ (HBw.out.trans (hcl.out.1.mono HBw.out.size)))
      · have hl2' : ¬ (2 : Int) < l.length := by omega
        by_cases hke : k = 50
        · have HS := hide (HNo.out (HN1.out (by omega)))
          subst hke
          go_wp2_with (go_at_call 28; refine (HCx.out _).mono ?_; rintro e w2 ⟨Al, cl, rfl, hcl⟩; replace hcl := hide hcl)
          exact bodyPost_ret (v := .tuple #[.slice none 0 0, .bool false]) (by simp [results, Tryz.results11, go_sem]) rfl (HS.out _ (HBw.out.trans (hcl.out.1.mono HBw.out.size)))
        · have hke' : ((k : Int) == 50) = false := beq_eq_false_iff_ne.2 (by omega)
          have hke2 : ¬ (k : Int) = 50 := by omega
          go_wp2_with (go_at_call 28; refine (HCx.out _).mono ?_; rintro e w2 ⟨Al, cl, rfl, hcl⟩; replace hcl := hide hcl)
          go_loopw [8, 33] (fun v8 v33 wx => ∃ j : Nat, v33 = .int .i64 j ∧ j ≤ l.length ∧ Hid (∀ t ∈ l.take j, sqE t = some (sqN t)) ∧ Hid (Is w2 wx v8 ((l.take j).map fun t => (sqN t : Int)))) (fun _ v33 _ => l.length - (intOf v33).toNat)
          case atStart => exact ⟨0, rfl, Nat.zero_le _, (fun t h => by simp at h), (Below.refl _ _).alloc (Nat.le_refl _) _, some w2.heap.size, Rw.new (e := 3) [] [] (Blk.new _ _ _) rfl rfl (Nat.le_refl _) (Nat.zero_le _), fun g h => by cases h; exact Nat.le_refl _⟩
          case round =>
            obtain ⟨j, rfl, hjl, Hok, HI⟩ := hrel
            by_cases hltj : j < l.length
            · have hltj' : (j : Int) < l.length := by omega
              obtain ⟨gl, ol, rfl, hgl, hcl0⟩ := hcl.out.2 j hltj
              have hclj := (HI.out.1.cell (p := ⟨gl, ol + j, none⟩) hgl.2).trans hcl0
              have htl := HLl.out _ (List.getElem_mem hltj)
              have HNu := hide (fun W => rnumber_any l[j] W htl)
              obtain ⟨t, ht⟩ : ∃ t, l[j] = t := ⟨_, rfl⟩
              rw [ht] at hclj HNu
              have HEv := hide (sqE_val t)
              by_cases hbad : sqN t = 0 ∧ t ≠ [42]
              · have HS := hide (HNo.out (HBad.out (HBd.out j hltj (by rw [ht, HEv.out, if_pos hbad]))))
                have hts : (t == [42]) = false := beq_eq_false_iff_ne.2 hbad.2
                rw [hbad.1] at HNu
                clear ht hcl0 hbad
                go_wp2_with (go_at_call 24; refine (HNu.out _).mono ?_; rintro e w3 ⟨rfl, hw3⟩; subst hw3)
                exact bodyPost_ret (v := .tuple #[.slice none 0 0, .bool false]) (by simp [results, Tryz.results11, go_sem]) rfl (HS.out _ (by have h := HBw.out.trans (hcl.out.1.mono HBw.out.size); exact h.trans (HI.out.1.mono h.size)))
              · have HN3 : Hid (∀ t ∈ l.take (j + 1), sqE t = some (sqN t)) := fun u hu => by
                  rw [List.take_succ_eq_append_getElem hltj, List.mem_append] at hu
                  rcases hu with hu | hu
                  · exact Hok.out u hu
                  · rw [List.mem_singleton] at hu
                    rw [hu, ht, HEv.out, if_neg hbad]
                have HN4 : Hid ((l.take (j + 1)).map (fun t => (sqN t : Int)) = (l.take j).map (fun t => (sqN t : Int)) ++ [(sqN t : Int)]) := by
                  show _ = _
                  rw [List.take_succ_eq_append_getElem hltj, List.map_append, ht]
                  rfl
                have hlj : ((l.take j).map (fun t => (sqN t : Int))).length ≤ 2 := by rw [List.length_map, List.length_take]; omega
                obtain ⟨hbI, GI, hrI, hgI⟩ := HI.out
                have HRI := hide hrI
                have HBI := hide hbI
                have HGI := hide hgI
                obtain ⟨A8, c8, rfl⟩ := hrI.form
                have hsl := sqN_le t
                clear ht hcl0 hrI hbI hgI HI
                generalize (l.take j).map (fun t => (sqN t : Int)) = ns at *
                by_cases h0 : sqN t = 0
                · have hts : t = [42] := Decidable.byContradiction fun e => hbad ⟨h0, e⟩
                  subst hts
                  rw [h0] at HNu HN4
                  clear hbad h0 HEv
                  go_wp2_with (first
                    | (go_at_call 24; refine (HNu.out _).mono ?_; rintro e w3 ⟨rfl, hw3⟩; subst hw3)
                    | (at_builtin; refine wpList_append_rw rfl _ _ 39 39 rfl 3 i0 (.int .i64 0) 1 8 Tryz.underlying39 hi hz0 hz1 hz2 rfl rfl (HRI.out.keep (S := fun _ => False) ((Mvs.refl _ _).alloc _) (fun _ _ c => c)) _ 1 _ rfl (src_int _) (by simp only [maxLen]; omega) (by omega) ?_))
                  intro v4 w5 G4 hr4 hm5 hg4
                  have T4 := hide (Is.grow (x := (0 : Int)) HBI.out HGI.out hr4 hm5 (by simpa using hg4))
                  clear hr4 hm5 hg4
                  go_wp2
                  go_roundw
                  case rel => exact ⟨j + 1, by go_num, by omega, HN3.out, by rw [HN4.out]; exact T4.out⟩
                  case measure => simp [intOf] <;> omega
                · have h0' : (((sqN t : Nat) : Int) == 0) = false := beq_eq_false_iff_ne.2 (by omega)
                  have h0x : ¬ ((sqN t : Nat) : Int) = 0 := by omega
                  clear hbad HEv
                  generalize sqN t = q at *
                  go_wp2_with (first
                    | (go_at_call 24; refine (HNu.out _).mono ?_; rintro e w3 ⟨rfl, hw3⟩; subst hw3)
                    | (at_builtin; refine wpList_append_rw rfl _ _ 39 39 rfl 3 i0 (.int .i64 0) 1 8 Tryz.underlying39 hi hz0 hz1 hz2 rfl rfl (HRI.out.keep (S := fun _ => False) ((Mvs.refl _ _).alloc _) (fun _ _ c => c)) _ 1 _ rfl (src_int _) (by simp only [maxLen]; omega) (by omega) ?_))
                  intro v4 w5 G4 hr4 hm5 hg4
                  have T4 := hide (Is.grow (x := (q : Int)) HBI.out HGI.out hr4 hm5 (by simpa using hg4))
                  clear hr4 hm5 hg4
                  go_wp2
                  go_roundw
                  case rel => exact ⟨j + 1, by go_num, by omega, HN3.out, by rw [HN4.out]; exact T4.out⟩
                  case measure => simp [intOf] <;> omega
            · obtain rfl : j = l.length := by omega
              have hok := Hok.out
              have hI := HI.out
              rw [List.take_length] at hok hI
              obtain ⟨a, b, hsI, ha, hb⟩ := HGd.out (by omega) hok
              have hIx := hI.ia
              have HBx := hide hI.1
              obtain ⟨An, cn, en, hcn⟩ := hIx
              rw [List.length_map] at en
              subst en
              have hlpos : 0 < l.length := List.length_pos_iff.2 hlne
              obtain ⟨M, HM⟩ : ∃ M, Hid (l.length = M + 1) := ⟨l.length - 1, by show _ = _; omega⟩
              obtain ⟨N, HN⟩ : ∃ N, Hid (l.length = N) := ⟨_, hide rfl⟩
              obtain ⟨gn, on, rfl, hgn, qa0⟩ := hcn 0 (by rw [List.length_map]; exact hlpos)
              obtain ⟨gn', on', e', _, qb0⟩ := hcn M (by rw [List.length_map]; have := HM.out; omega)
              cases e'
              have qa : wr.cell? ⟨gn, on, none⟩ = some (.int .i64 (a : Nat)) := by
                rw [Nat.add_zero] at qa0
                rw [qa0, List.getElem_map]
                rw [List.getElem?_map, List.getElem?_eq_getElem hlpos] at ha
                have := Option.some.inj ha
                rw [this]
              have qb : wr.cell? ⟨gn, on + M, none⟩ = some (.int .i64 (b : Nat)) := by
                rw [qb0, List.getElem_map]
                have hM := HM.out
                rw [show l.length - 1 = M from by omega, List.getElem?_map, List.getElem?_eq_getElem (by omega)] at hb
                have := Option.some.inj hb
                rw [this]
              have HRx := HR.out.below (hcl.out.1.trans (HBx.out.mono hcl.out.1.size))
              obtain ⟨hmx, Gk, hrk, hgk⟩ := HRx
              have HMx := hide hmx
              have HRk := hide hrk
              have HGk := hide hgk
              rw [List.length_map, HOl.out] at HRk
              have HOm2 : Hid ((its.take (k + 1)).mapM sqI = some (out ++ [(a, b)])) := by
                show _ = _
                rw [List.take_succ_eq_append_getElem hlt]
                exact mapM_snoc _ _ _ HOm.out (by rw [HX.out]; exact hsI)
              have hN1 : (N : Int) - 1 = M := by have := HM.out; have := HN.out; omega
              have hN0 : (0 : Int) < N := by have := HM.out; have := HN.out; omega
              have hMN : (M : Int) < N := by have := HM.out; have := HN.out; omega
              have hMb : M ≤ 100001 := by have := HM.out; omega
              rw [HN.out]
              clear qa0 qb0 hcn hok hI ha hb hsI hmx hrk hgk Hok HI hlpos hlne
              go_upto_region 17 with fail
              refine regionL 10 (fun W => W.cell? ⟨gn, on, none⟩ = some (.int .i64 (a : Nat)) ∧ W.cell? ⟨gn, on + M, none⟩ = some (.int .i64 (b : Nat))) (by kernel_rfl) ?_
              have HTT : wr.drew.cell? ⟨gn, on, none⟩ = some (.int .i64 (a : Nat)) ∧ wr.drew.cell? ⟨gn, on + M, none⟩ = some (.int .i64 (b : Nat)) := ⟨qa, qb⟩
              refine takeW (i := 0) (v := (.slice A4 k c4)) rfl (by kernel_rfl) (by kernel_rfl) (by kernel_rfl) rfl (fun _ _ _ h => h) (fun _ => HTT) (Or.inl ⟨by rfl, fun W _ => by go_simp⟩) ?_
              simp only [Act.put, List.getElem_toArray, List.getElem_cons_succ, List.getElem_cons_zero, List.setIfInBounds_toArray, List.set_cons_zero, List.set_cons_succ]
              refine takeW (i := 1) (v := (.slice (some ⟨gn, on, none⟩) N cn)) rfl (by kernel_rfl) (by kernel_rfl) (by kernel_rfl) rfl (fun _ _ _ h => h) (fun _ => HTT) (Or.inl ⟨by rfl, fun W _ => by go_simp⟩) ?_
              simp only [Act.put, List.getElem_toArray, List.getElem_cons_succ, List.getElem_cons_zero, List.setIfInBounds_toArray, List.set_cons_zero, List.set_cons_succ]
              refine takeW (i := 2) (v := (.pointer (some ⟨gn, on, none⟩))) rfl (by kernel_rfl) (by kernel_rfl) (by kernel_rfl) rfl (fun _ _ _ h => h) (fun _ => HTT) (Or.inl ⟨by rfl, fun W _ => by go_simp; intro h; omega⟩) ?_
              simp only [Act.put, List.getElem_toArray, List.getElem_cons_succ, List.getElem_cons_zero, List.setIfInBounds_toArray, List.set_cons_zero, List.set_cons_succ]
              refine takeL (i := 3) (v := (.int .i64 (a : Nat))) rfl (by kernel_rfl) (by kernel_rfl) (by kernel_rfl) (by kernel_rfl) (by kernel_rfl) (fun _ _ _ h => h) HTT (Or.inl ⟨by rfl, fun W hW => by obtain ⟨hW1, hW2⟩ := hW; go_simp⟩) ?_
              simp only [Act.put, List.getElem_toArray, List.getElem_cons_succ, List.getElem_cons_zero, List.setIfInBounds_toArray, List.set_cons_zero, List.set_cons_succ]
              refine takeW (i := 4) (v := (.slice (some ⟨gn, on, none⟩) N cn)) rfl (by kernel_rfl) (by kernel_rfl) (by kernel_rfl) rfl (fun _ _ _ h => h) (fun _ => HTT) (Or.inl ⟨by rfl, fun W _ => by go_simp⟩) ?_
              simp only [Act.put, List.getElem_toArray, List.getElem_cons_succ, List.getElem_cons_zero, List.setIfInBounds_toArray, List.set_cons_zero, List.set_cons_succ]
              refine takeW (i := 5) (v := (.slice (some ⟨gn, on, none⟩) N cn)) rfl (by kernel_rfl) (by kernel_rfl) (by kernel_rfl) rfl (fun _ _ _ h => h) (fun _ => HTT) (Or.inl ⟨by rfl, fun W _ => by go_simp⟩) ?_
              simp only [Act.put, List.getElem_toArray, List.getElem_cons_succ, List.getElem_cons_zero, List.setIfInBounds_toArray, List.set_cons_zero, List.set_cons_succ]
              refine takeW (i := 6) (v := (.int .i64 (N : Nat))) rfl (by kernel_rfl) (by kernel_rfl) (by kernel_rfl) rfl (fun _ _ _ h => h) (fun _ => HTT) (Or.inl ⟨by rfl, fun W _ => by go_simp⟩) ?_
              simp only [Act.put, List.getElem_toArray, List.getElem_cons_succ, List.getElem_cons_zero, List.setIfInBounds_toArray, List.set_cons_zero, List.set_cons_succ]
              refine takeW (i := 7) (v := (.int .i64 (M : Nat))) rfl (by kernel_rfl) (by kernel_rfl) (by kernel_rfl) rfl (fun _ _ _ h => h) (fun _ => HTT) (Or.inl ⟨by rfl, fun W _ => by go_simp; rw [IntKind.wrap_i64]; omega⟩) ?_
              simp only [Act.put, List.getElem_toArray, List.getElem_cons_succ, List.getElem_cons_zero, List.setIfInBounds_toArray, List.set_cons_zero, List.set_cons_succ]
              refine takeW (i := 8) (v := (.pointer (some ⟨gn, on + M, none⟩))) rfl (by kernel_rfl) (by kernel_rfl) (by kernel_rfl) rfl (fun _ _ _ h => h) (fun _ => HTT) (Or.inl ⟨by rfl, fun W _ => by go_simp⟩) ?_
              simp only [Act.put, List.getElem_toArray, List.getElem_cons_succ, List.getElem_cons_zero, List.setIfInBounds_toArray, List.set_cons_zero, List.set_cons_succ]
              refine takeL (i := 9) (v := (.int .i64 (b : Nat))) rfl (by kernel_rfl) (by kernel_rfl) (by kernel_rfl) (by kernel_rfl) (by kernel_rfl) (fun _ _ _ h => h) HTT (Or.inl ⟨by rfl, fun W hW => by obtain ⟨hW1, hW2⟩ := hW; go_simp⟩) ?_
              simp only [Act.put, List.getElem_toArray, List.getElem_cons_succ, List.getElem_cons_zero, List.setIfInBounds_toArray, List.set_cons_zero, List.set_cons_succ]
              refine readyL (rs := [10]) (by kernel_rfl) (by simp) ?_
              refine AllL.cons rfl (fun K hK => ?_) AllL.nil
              try simp only [List.getElem_toArray, List.getElem_cons_succ, List.getElem_cons_zero]
              go_simp
              refine hK.out _ _ (vac (by kernel_rfl)) (fun _ => ?_)
              clear hK K
              try simp only [Act.put, List.getElem_toArray, List.getElem_cons_succ, List.getElem_cons_zero, List.setIfInBounds_toArray, List.set_cons_zero, List.set_cons_succ]
              refine readyL (rs := [11]) (by kernel_rfl) (by simp) ?_
              refine AllL.cons rfl (fun K hK => ?_) AllL.nil
              try simp only [List.getElem_toArray, List.getElem_cons_succ, List.getElem_cons_zero]
              go_simp
              refine hK.out _ _ (vac (by kernel_rfl)) (fun _ => ?_)
              clear hK K
              try simp only [Act.put, List.getElem_toArray, List.getElem_cons_succ, List.getElem_cons_zero, List.setIfInBounds_toArray, List.set_cons_zero, List.set_cons_succ]
              refine readyL (rs := [12]) (by kernel_rfl) (by simp) ?_
              refine AllL.cons rfl (fun K hK => ?_) AllL.nil
              refine step_append_rw (by rfl) (.tmp 50) (.tmp 61) 23 23 (by rfl) 53 j0 (.agg #[.int .i64 0, .int .i64 0]) 2 16 Tryz.underlying23 hj hy0 hy1 hy2 (by rfl) (by simp [Act.eval, Act.put]) (HRk.out.keep (S := fun _ => False) ((Mvs.refl _ wr).drew.alloc (.cells #[.int .i64 (a : Int), .int .i64 (b : Int)] 53)) (fun _ _ c => c)) (.slice (some ⟨wr.drew.heap.size, 0, none⟩) 1 1) 1 (rgF ((a : Int), (b : Int))) (by simp [Act.eval, Act.put]) (src_rg (a : Int) (b : Int)) (by simp only [maxLen]; omega) (by omega) ?_
              intro v9 w9 G9 hr9 hm9 hg9
              have X9 := hide (Rs.grow (x := (a : Int)) (y := (b : Int)) (rs := out.map natR) HMx.out (Nat.le_refl _) hbw HGk.out rfl (by rw [List.length_map, HOl.out]; exact hr9) hm9 hg9)
              clear hr9 hm9 hg9
              refine hK.out _ _ (vac (by kernel_rfl)) (fun _ => ?_)
              clear hK K
              try simp only [Act.put, List.getElem_toArray, List.getElem_cons_succ, List.getElem_cons_zero, List.setIfInBounds_toArray, List.set_cons_zero, List.set_cons_succ]
              refine readyL (rs := [13]) (by kernel_rfl) (by simp) ?_
              refine AllL.cons rfl (fun K hK => ?_) AllL.nil
              try simp only [List.getElem_toArray, List.getElem_cons_succ, List.getElem_cons_zero]
              go_simp
              refine hK.out _ _ (vac (by kernel_rfl)) (fun _ => ?_)
              clear hK K
              try simp only [Act.put, List.getElem_toArray, List.getElem_cons_succ, List.getElem_cons_zero, List.setIfInBounds_toArray, List.set_cons_zero, List.set_cons_succ]
              refine doneL (by kernel_rfl) ?_ _
              go_wp2
              go_roundw
              case rel => exact ⟨k + 1, out ++ [(a, b)], by go_num, by omega, by omega, by show _ = _; rw [List.length_append, HOl.out]; rfl, HOm2.out, by rw [List.map_append]; exact X9.out⟩
              case measure => simp [intOf] <;> omega
    · obtain rfl : k = its.length := by omega
      have hom := HOm.out
      rw [List.take_length] at hom
      have HS := hide (HYs.out out hk50 hom)
      have HRA := hide HR.out.ra
      obtain ⟨A4, c4, e4⟩ := HR.out.2.choose_spec.1.form
      subst e4
      clear hom
      go_wp2
      exact bodyPost_ret (v := .tuple #[.slice A4 (out.map natR).length c4, .bool true]) (by simp [results, Tryz.results11, go_sem]) rfl (by rw [HS.out]; exact ⟨HBw.out, _, rfl, HRA.out⟩)
end Go.Proofs.YtbjencibkkhbhaaGreatDoor
