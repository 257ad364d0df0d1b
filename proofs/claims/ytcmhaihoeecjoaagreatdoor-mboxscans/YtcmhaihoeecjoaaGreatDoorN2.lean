/- The document's Scan. -/
import Derived.Test.YtcmhaihoeecjoaaGreatDoorN1
import Derived.Test.YtcmhaihoeecjoaaGreatDoorM7a
namespace Go.Proofs.YtcmhaihoeecjoaaGreatDoor
open Go.RowKit Go.Shelf
theorem AR.keepN {w w' : World} {v : Value} {cs : List Value} {S : Nat → Prop} (h : AR w v cs) (hm : Mvs S w w') (hS : cs ≠ [] → ∀ A n c, v = .slice (some A) n c → ¬ S A.block) : AR w' v cs := by
  obtain ⟨A, cap, rfl, h1, h2, h3, h4⟩ := h
  refine ⟨A, cap, rfl, h1, h2, h3, fun hc => ?_⟩
  obtain ⟨g, o, rfl, hg, h5⟩ := h4 hc
  refine ⟨g, o, rfl, Nat.lt_of_lt_of_le hg hm.size, fun j u hu => ?_⟩
  rw [hm.cell (a := ⟨g, o + j, none⟩) hg (hS hc ⟨g, o, none⟩ _ _ rfl)]
  exact h5 j u hu
theorem Texts.ar {w wr : World} {v : Value} {xs : List (List UInt8)} (h : Texts w wr v xs) : AR wr v (xs.map sv) ∧ ∀ A n c, v = .slice (some A) n c → w.heap.size ≤ A.block := by
  obtain ⟨hb, G, hr, hg⟩ := h
  rcases hr.2 with ⟨rfl, h0, rfl⟩ | ⟨g, o, cap, rfl, rfl, h1, h2, h3, h4, h5⟩
  · have : xs = [] := List.length_eq_zero_iff.1 h0
    subst this
    exact ⟨⟨none, 0, rfl, Nat.le_refl _, Nat.zero_le _, fun _ => rfl, fun h => absurd rfl h⟩, fun A n c e => by cases e⟩
  · refine ⟨⟨some ⟨g, o, none⟩, cap, by rw [List.length_map], by rw [List.length_map]; exact h1, h2, (fun e => by cases e), fun _ => ⟨g, o, rfl, h3, h4⟩⟩, fun A n c e => ?_⟩
    cases e
    exact hg g rfl
/-- The spans so far: in the first row, or in one made meanwhile. -/
def OutS (w w1 wr : World) (v : Value) (xs : List Sp) : Prop := ∃ G, Rw wr 3 v xs.length (spC xs) G ∧ ∀ g, G = some g → g = w.heap.size ∨ w1.heap.size ≤ g
theorem scan_end {s : List UInt8} {a : Nat} {L : List (List UInt8)} {xs : List Sp} {i : Nat} (hi : L.length ≤ i) (h : (restV a (L.drop i)).map (xs ++ ·) = scanV s) : scanV s = some xs := by
  rw [List.drop_eq_nil_of_le hi] at h
  rw [← h]
  simp [restV, grp, okG, spans]
set_option maxRecDepth 8000 in
set_option maxHeartbeats 600000 in
theorem rscan_any (s : List UInt8) (w : World) (hs : s.length ≤ 20000) :
    Calls Tryz.prog 14 #[.string ⟨s.toArray⟩] w (SOut s w) := by
  obtain ⟨i0, hi, hz0, hz1, hz2⟩ := info_three spInfo
  have HSP := hide (fun w => rsplit_any s w hs)
  have HLK := hide (lok s)
  have HLF := hide (splitS_flat s)
  have hll := splitS_len s
  obtain ⟨L, hL⟩ : ∃ L, splitS s = L := ⟨_, rfl⟩
  have HLE := hide hL
  rw [hL] at HSP HLK HLF hll
  have hL0 : Hid ((restV 0 L).map (([] : List Sp) ++ ·) = scanV s) := by
    show _ = _
    unfold scanV
    rw [hL]
    simp
  clear hL
  go_enter Tryz.func14, Tryz.ntmps14
  go_wp2_with (first
    | (go_at_call 30; refine (HSP.out _).mono ?_; rintro e w1 ⟨lv, rfl, htx⟩
       have hbt := htx.1
       obtain ⟨har, hlow⟩ := htx.ar
       obtain ⟨LA, lc, rfl, hlm⟩ := har.len
       replace har := hide har
       replace hlow := hide hlow
       replace hbt := hide hbt
       clear htx))
  have hsz1 := hbt.out.size
  simp only [World.size_alloc] at hsz1
  have HBW : Hid (Below w.heap.size w w1) := ((Below.refl _ _).alloc (Nat.le_refl _) _).trans (hbt.out.mono (by simp))
  go_loopw [4, 6, 7] (fun v t i wr => ∃ (k a : Nat) (xs : List Sp), t = .int .i64 a ∧ i = .int .i64 k ∧ k ≤ L.length ∧ xs.length ≤ k ∧ Hid (a = (L.take k).flatten.length) ∧ Hid ((restV a (L.drop k)).map (xs ++ ·) = scanV s) ∧ Hid (OutS w w1 wr v xs) ∧ Hid (Mvs (fun k => k = w.heap.size) w1 wr)) (fun _ _ i _ => L.length - (intOf i).toNat)
  case atStart =>
    refine ⟨0, 0, [], rfl, rfl, Nat.zero_le _, Nat.le_refl _, rfl, hL0, ⟨some w.heap.size, ?_, fun g e => by cases e; exact .inl rfl⟩, Mvs.refl _ _⟩
    exact Rw.new (e := 42) [] [] ((Blk.new w #[] 42).below hbt.out (by simp)) rfl rfl (Nat.le_refl _) (Nat.zero_le _)
  case round =>
    obtain ⟨k, a, xs, rfl, rfl, hk, hxk, HA, HR, HO, HM⟩ := hrel
    obtain ⟨G, hr, hg⟩ := HO.out
    obtain ⟨OA, oc, rfl⟩ := hr.form
    replace hr := hide hr
    replace hg := hide hg
    have hszr := HM.out.size
    by_cases hlt : k < L.length
    · obtain ⟨g, o, cap', ev, q1, q2, q3, q4⟩ := (har.out.keepN HM.out (fun _ A n c e => by have := hlow.out A n c e; simp at this; omega)).at (by intro e; rw [e] at hlt; simp at hlt)
      obtain ⟨rfl, rfl⟩ : LA = some ⟨g, o, none⟩ ∧ lc = cap' := by cases ev; exact ⟨rfl, rfl⟩
      have hc := q4 k hlt
      have hc' := q4
      unfold sv at hc hc'
      have HD := hide (List.drop_eq_getElem_cons hlt)
      have HLKd : Hid (LOK (L.drop k)) := by
        have := HLK.out
        rw [← List.take_append_drop k L] at this
        exact this.right
      have HFl : Hid ((L.take k).flatten.length + L[k].length ≤ 20000) := by
        have h1 := congrArg List.length HLF.out
        rw [← List.take_append_drop k L, HD.out] at h1
        simp only [List.flatten_append, List.flatten_cons, List.length_append] at h1
        show _ ≤ _
        omega
      obtain ⟨x, hx⟩ : ∃ x, L[k] = x := ⟨_, rfl⟩
      rw [hx] at hc HD HFl
      have hax : a + x.length ≤ 20000 := by rw [HA.out]; exact HFl.out
      have HMk := hide (fun w => marks0 (s := x) (m := marksN x) (by omega) rfl w)
      have hlt' : (k : Int) < L.length := by omega
      have HC' := hide hc'
      clear ev q4 hx hc'
      cases hsx : sepB x with
      | false =>
        have hm0 : marksN x ≠ 0 := fun e => by rw [marks_zero.1 e] at hsx; cases hsx
        have HN : Hid (scanV s = none) := by
          show _ = _
          rw [← HR.out, HD.out, restV_non hsx]
          rfl
        generalize marksN x = mm at *
        clear hsx
        go_wp2
        go_quiet ((go_at_call 28; exact Calls.quiet_of_same (HMk.out _)))
        go_wp2
        go_ret2
        exact out_no HN.out (below_mvs' HBW.out (HM.out.drewN nq) (fun j hj e => by omega) (Nat.le_refl _))
      | true =>
        have hm0 : marksN x = 0 := marks_zero.2 hsx
        have HSX := hide hsx
        have hxne : x ≠ [] := by
          have := HLKd.out
          rw [HD.out] at this
          exact this.ne
        obtain ⟨n, hn⟩ : ∃ n, x.length = n + 1 := ⟨x.length - 1, by have := List.length_pos_iff.2 hxne; omega⟩
        obtain ⟨c, hcx, hat⟩ := at_lit x n (by omega)
        have HLast : Hid (x.getLast? = some c) := by
          show _ = _
          rw [List.getLast?_eq_getElem?, hn, Nat.add_sub_cancel, List.getElem?_eq_getElem (by omega), hcx]
        rw [hm0] at HMk
        have HN1 := hide hn
        clear hsx hm0 hxne hcx
        by_cases h10 : c = 10
        · subst h10
          go_wp2
          go_quiet ((go_at_call 28; exact Calls.quiet_of_same (HMk.out _)))
          have HMd : Hid (Mvs (fun k => k = w.heap.size) w1 (wr.drewN nq)) := HM.out.drewN nq
          have HRd : Hid (Rw (wr.drewN nq) 3 (.slice OA xs.length oc) xs.length (spC xs) G) := hr.out
          have hcd : (wr.drewN nq).cell? ⟨g, o + k, none⟩ = some (.string ⟨x.toArray⟩) := hc
          have HCd : Hid (∀ j (hj : j < L.length), (wr.drewN nq).cell? ⟨g, o + j, none⟩ = some (.string ⟨(L[j]).toArray⟩)) := HC'.out
          have q3d : g < (wr.drewN nq).heap.size := q3
          have hszd : w1.heap.size ≤ (wr.drewN nq).heap.size := hszr
          generalize wr.drewN nq = W at *
          clear hc HC' q3 hszr HM hr HO
          go_wp2
          clear HMk
          go_loop [6, 7] (fun t i => ∃ j i2 t2 : Nat, i2 ≤ L.length ∧ i = .int .i64 i2 ∧ t = .int .i64 t2 ∧ Hid (k + 1 + j = i2) ∧ Hid (a + (n + 1) + ((L.drop (k + 1)).take j).flatten.length = t2) ∧ Hid (∀ y ∈ (L.drop (k + 1)).take j, sepB y = false)) (fun _ i => L.length - (intOf i).toNat)
          case atStart => exact ⟨0, k + 1, a + (n + 1), by omega, by go_num, by go_num, rfl, by simp [Hid], fun y hy => by simp at hy⟩
          case round =>
            obtain ⟨j, i2, t2, hi2l, rfl, rfl, HI2, HT2, HNS⟩ := hrel
            have HTT : Hid ((L.take (k + 1 + j)).flatten.length = (L.take k).flatten.length + (n + 1) + ((L.drop (k + 1)).take j).flatten.length) := by
              show _ = _
              rw [show k + 1 + j = k + (1 + j) by omega, List.take_add, List.flatten_append, List.length_append, HD.out, show 1 + j = j + 1 by omega, List.take_succ_cons, List.flatten_cons, List.length_append, HN1.out]
              omega
            have hgt : k < i2 := by have := HI2.out; omega
            by_cases hlt2 : i2 < L.length
            · have hcy := HCd.out i2 hlt2
              have HTY : Hid ((L.drop (k + 1)).take (j + 1) = (L.drop (k + 1)).take j ++ [L[i2]]) := by
                show _ = _
                have hj : j < (L.drop (k + 1)).length := by rw [List.length_drop]; have := HI2.out; omega
                rw [List.take_succ_eq_append_getElem hj, List.getElem_drop]
                congr 2
                exact getElem_congr_idx HI2.out
              have HDY := hide (List.drop_eq_getElem_cons hlt2)
              obtain ⟨y, hy⟩ : ∃ y, L[i2] = y := ⟨_, rfl⟩
              rw [hy] at hcy HTY HDY
              have hty : t2 + y.length ≤ 20000 := by
                have h1 := congrArg List.length HLF.out
                rw [← List.take_append_drop i2 L, HDY.out] at h1
                simp only [List.flatten_append, List.flatten_cons, List.length_append] at h1
                rw [← HI2.out, HTT.out] at h1
                have := HT2.out
                have := HA.out
                omega
              have HMy := hide (fun w => marks0 (s := y) (m := marksN y) (by omega) rfl w)
              have hlt2' : (i2 : Int) < L.length := by omega
              clear hy
              cases hsy : sepB y with
              | false =>
                have hm0 : marksN y ≠ 0 := fun e => by rw [marks_zero.1 e] at hsy; cases hsy
                generalize marksN y = mm at *
                have HSY := hide hsy
                clear hsy
                go_wp2_with (go_at_call 28; refine (HMy.out _).mono ?_; rintro e w2 ⟨rfl, rfl⟩)
                go_round
                case rel =>
                  refine ⟨j + 1, i2 + 1, t2 + y.length, by omega, by go_num, by go_num, by have := HI2.out; show _ = _; omega, ?_, ?_⟩
                  · show _ = _
                    rw [HTY.out, List.flatten_append, List.length_append, ← HT2.out]
                    simp
                    omega
                  · intro z hz
                    rw [HTY.out] at hz
                    rcases List.mem_append.1 hz with h | h
                    · exact HNS.out z h
                    · rw [List.mem_singleton.1 h]; exact HSY.out
                case measure => simp [intOf]; omega
              | true =>
                have hm0 : marksN y = 0 := marks_zero.2 hsy
                rw [hm0] at HMy
                have HSY := hide hsy
                clear hsy hm0
                have HEQ : Hid (L.take k ++ x :: (((L.drop (k + 1)).take j) ++ L.drop i2) = splitS s) := by
                  show _ = _
                  rw [HLE.out, ← HI2.out, show L.drop (k + 1 + j) = (L.drop (k + 1)).drop j by rw [List.drop_drop], List.take_append_drop, ← HD.out, List.take_append_drop]
                have HLD : Hid ((grp (L.drop i2)).1 = []) := lead_nil (fun z t e => by rw [HDY.out] at e; cases e; exact HSY.out)
                have HLC : Hid (LOK ((L.drop (k + 1)).take j)) := by
                  have h1 := HLKd.out
                  rw [HD.out] at h1
                  have h2 := h1.2
                  rw [← List.take_append_drop j (L.drop (k + 1))] at h2
                  exact h2.left
                have HRS : Hid (restV a (L.drop k) = if ((L.drop (k + 1)).take j).flatten.getLast? = some 10 then (restV t2 (L.drop i2)).map (⟨a, a + (n + 1), t2⟩ :: ·) else none) := by
                  show _ = _
                  have h1 := restV_sep (a := a) HSX.out HNS.out HLD.out
                  rw [show x :: (((L.drop (k + 1)).take j) ++ L.drop i2) = L.drop k by rw [HD.out, ← HI2.out, show L.drop (k + 1 + j) = (L.drop (k + 1)).drop j by rw [List.drop_drop], List.take_append_drop]] at h1
                  rw [h1, HN1.out, HT2.out]
                obtain ⟨cuta, cutb⟩ := cut_lines HEQ.out
                rw [← HA.out, HN1.out] at cuta cutb
                have hle1 : a + (n + 1) ≤ t2 := by rw [← HT2.out]; omega
                have hle2 : t2 ≤ s.length := by rw [← HT2.out]; exact cutb
                have hsl := fun w => slice_str s (a + (n + 1)) t2 hle1 hle2 w
                rw [show t2 - (a + (n + 1)) = ((L.drop (k + 1)).take j).flatten.length by rw [← HT2.out]; omega, cuta, show (((a + (n + 1) : Nat)) : Int) = (a : Int) + ((n : Int) + 1) by omega] at hsl
                have HBD := hide (decD_body HLC.out HNS.out)
                have hcl : ((L.drop (k + 1)).take j).flatten.length ≤ 20000 := by rw [← cuta, List.length_take, List.length_drop]; omega
                have HDc := hide (fun w => rdecode_any ((L.drop (k + 1)).take j).flatten w (by omega))
                unfold decDT at HDc
                generalize ((L.drop (k + 1)).take j).flatten = cf at *
                clear cuta cutb hcl HLC HNS
                cases hd : decD cf with
                | none =>
                  rw [hd] at HDc
                  have HN : Hid (scanV s = none) := by
                    show _ = _
                    rw [← HR.out, HRS.out, if_neg (HBD.out.1 hd)]
                    rfl
                  clear hd
                  go_wp2_with (first
                    | (go_at_call 28; refine (HMy.out _).mono ?_; rintro e w2 ⟨rfl, rfl⟩)
                    | (go_at_call 18; refine (HDc.out _).mono ?_; rintro e w3 ⟨rfl, hb3⟩; replace hb3 := hide hb3))
                  go_ret2
                  exact out_no HN.out (below_mvs' HBW.out ((HMd.out.alloc _).then hb3.out) (fun j hj e => by omega) (Nat.le_refl _))
                | some m =>
                  rw [hd] at HDc
                  have HY : Hid (restV a (L.drop k) = (restV t2 (L.drop i2)).map (⟨a, a + (n + 1), t2⟩ :: ·)) := by
                    show _ = _
                    rw [HRS.out, if_pos (Classical.not_not.1 (fun h => by rw [HBD.out.2 h] at hd; cases hd))]
                  clear hd
                  go_wp2_with (first
                    | (go_at_call 28; refine (HMy.out _).mono ?_; rintro e w2 ⟨rfl, rfl⟩)
                    | (go_at_call 18; refine (HDc.out _).mono ?_; rintro e w3 ⟨rfl, hb3⟩
                       have hk3 := ((Blk.new W #[.int .i64 (a : Int), .int .i64 ((a : Int) + ((n : Int) + 1)), .int .i64 (t2 : Int)] 42).below hb3 (by simp))
                       have hk3c := hk3.cell
                       have hk3l := hk3.lt
                       have hr3 := hide ((HRd.out.keep (S := fun _ => False) ((Mvs.refl _ _).alloc _) (fun _ _ c => c)).keep (S := fun _ => False) (Mvs.of_below hb3) (fun _ _ c => c))
                       have hsz3 := hb3.size
                       simp only [World.size_alloc] at hsz3
                       have HM3 := hide ((HMd.out.alloc _).then hb3)
                       clear hb3 hk3)
                    | (at_builtin; refine wpList_append_rw rfl _ _ 34 34 rfl 42 i0 (.agg #[.int .i64 0, .int .i64 0, .int .i64 0]) 3 24 Tryz.underlying34 hi hz0 hz1 hz2 rfl rfl (hr3.out.keep (S := fun _ => False) ((Mvs.refl _ _).alloc _) (fun _ _ c => c)) _ 1 _ rfl (src_sp _ _ _) (by simp only [maxLen]; omega) (by omega) ?_))
                  intro v1 w4 G1 hr1 hm1 hg1
                  have hmw : Mvs (fun k => some k = G) w3 w4 := ((Mvs.refl _ _).alloc _).trans' hm1 (fun _ _ h => h)
                  have HM4 : Hid (Mvs (fun k => k = w.heap.size) w1 w4) := HM3.out.trans' hmw (fun i hi e => by
                    rcases hg.out i e.symm with h | h
                    · exact h
                    · omega)
                  have HO4 : Hid (OutS w w1 w4 v1 (xs ++ [⟨a, a + (n + 1), t2⟩])) := by
                    refine ⟨G1, ?_, ?_⟩
                    · rw [spC_snoc, List.length_append]
                      have : Sp.cs ⟨a, a + (n + 1), t2⟩ = [.int .i64 (a : Int), .int .i64 ((a : Int) + ((n : Int) + 1)), .int .i64 (t2 : Int)] := by simp [Sp.cs]
                      rw [this]
                      exact hr1
                    · rintro g rfl
                      rcases hg1 with e | e
                      · exact hg.out g e.symm
                      · have := Option.some.inj e
                        exact .inr (by omega)
                  obtain ⟨A1, c1, rfl⟩ := hr1.form
                  clear hr1 hm1 hg1 hr3 hmw
                  go_wp2
                  go_roundw
                  case rel =>
                    refine ⟨i2, t2, _, rfl, rfl, hi2l, by simp; omega, ?_, ?_, HO4, HM4⟩
                    · show _ = _
                      rw [← HT2.out, HA.out, ← HI2.out, HTT.out]
                    · show _ = _
                      rw [← HR.out, HY.out]
                      simp [Function.comp_def]
                  case measure => simp [intOf]; omega
            · have hlt2' : ¬ (i2 : Int) < L.length := by omega
              have HMy : Hid (∀ w, Calls Tryz.prog 28 #[.string ⟨#[]⟩, .int .i64 0] w fun e w' => e = .returned (.int .i64 (-1)) ∧ w' = w) := fun w => marks0 (s := []) (by simp) rfl w
              have HEQ : Hid (L.take k ++ x :: (((L.drop (k + 1)).take j) ++ L.drop i2) = splitS s) := by
                show _ = _
                rw [HLE.out, ← HI2.out, show L.drop (k + 1 + j) = (L.drop (k + 1)).drop j by rw [List.drop_drop], List.take_append_drop, ← HD.out, List.take_append_drop]
              have HLD : Hid ((grp (L.drop i2)).1 = []) := lead_nil (fun z t e => by rw [List.drop_eq_nil_of_le (by omega)] at e; cases e)
              have HLC : Hid (LOK ((L.drop (k + 1)).take j)) := by
                have h1 := HLKd.out
                rw [HD.out] at h1
                have h2 := h1.2
                rw [← List.take_append_drop j (L.drop (k + 1))] at h2
                exact h2.left
              have HRS : Hid (restV a (L.drop k) = if ((L.drop (k + 1)).take j).flatten.getLast? = some 10 then (restV t2 (L.drop i2)).map (⟨a, a + (n + 1), t2⟩ :: ·) else none) := by
                show _ = _
                have h1 := restV_sep (a := a) HSX.out HNS.out HLD.out
                rw [show x :: (((L.drop (k + 1)).take j) ++ L.drop i2) = L.drop k by rw [HD.out, ← HI2.out, show L.drop (k + 1 + j) = (L.drop (k + 1)).drop j by rw [List.drop_drop], List.take_append_drop]] at h1
                rw [h1, HN1.out, HT2.out]
              obtain ⟨cuta, cutb⟩ := cut_lines HEQ.out
              rw [← HA.out, HN1.out] at cuta cutb
              have hle1 : a + (n + 1) ≤ t2 := by rw [← HT2.out]; omega
              have hle2 : t2 ≤ s.length := by rw [← HT2.out]; exact cutb
              have hsl := fun w => slice_str s (a + (n + 1)) t2 hle1 hle2 w
              rw [show t2 - (a + (n + 1)) = ((L.drop (k + 1)).take j).flatten.length by rw [← HT2.out]; omega, cuta, show (((a + (n + 1) : Nat)) : Int) = (a : Int) + ((n : Int) + 1) by omega] at hsl
              have HBD := hide (decD_body HLC.out HNS.out)
              have hcl : ((L.drop (k + 1)).take j).flatten.length ≤ 20000 := by rw [← cuta, List.length_take, List.length_drop]; omega
              have HDc := hide (fun w => rdecode_any ((L.drop (k + 1)).take j).flatten w (by omega))
              unfold decDT at HDc
              generalize ((L.drop (k + 1)).take j).flatten = cf at *
              clear cuta cutb hcl HLC HNS
              cases hd : decD cf with
              | none =>
                rw [hd] at HDc
                have HN : Hid (scanV s = none) := by
                  show _ = _
                  rw [← HR.out, HRS.out, if_neg (HBD.out.1 hd)]
                  rfl
                clear hd
                go_wp2_with (first
                  | (go_at_call 28; refine (HMy.out _).mono ?_; rintro e w2 ⟨rfl, rfl⟩)
                  | (go_at_call 18; refine (HDc.out _).mono ?_; rintro e w3 ⟨rfl, hb3⟩; replace hb3 := hide hb3))
                go_ret2
                exact out_no HN.out (below_mvs' HBW.out ((HMd.out.alloc _).then hb3.out) (fun j hj e => by omega) (Nat.le_refl _))
              | some m =>
                rw [hd] at HDc
                have HY : Hid (restV a (L.drop k) = (restV t2 (L.drop i2)).map (⟨a, a + (n + 1), t2⟩ :: ·)) := by
                  show _ = _
                  rw [HRS.out, if_pos (Classical.not_not.1 (fun h => by rw [HBD.out.2 h] at hd; cases hd))]
                clear hd
                go_wp2_with (first
                  | (go_at_call 28; refine (HMy.out _).mono ?_; rintro e w2 ⟨rfl, rfl⟩)
                  | (go_at_call 18; refine (HDc.out _).mono ?_; rintro e w3 ⟨rfl, hb3⟩
                     have hk3 := ((Blk.new W #[.int .i64 (a : Int), .int .i64 ((a : Int) + ((n : Int) + 1)), .int .i64 (t2 : Int)] 42).below hb3 (by simp))
                     have hk3c := hk3.cell
                     have hk3l := hk3.lt
                     have hr3 := hide ((HRd.out.keep (S := fun _ => False) ((Mvs.refl _ _).alloc _) (fun _ _ c => c)).keep (S := fun _ => False) (Mvs.of_below hb3) (fun _ _ c => c))
                     have hsz3 := hb3.size
                     simp only [World.size_alloc] at hsz3
                     have HM3 := hide ((HMd.out.alloc _).then hb3)
                     clear hb3 hk3)
                  | (at_builtin; refine wpList_append_rw rfl _ _ 34 34 rfl 42 i0 (.agg #[.int .i64 0, .int .i64 0, .int .i64 0]) 3 24 Tryz.underlying34 hi hz0 hz1 hz2 rfl rfl (hr3.out.keep (S := fun _ => False) ((Mvs.refl _ _).alloc _) (fun _ _ c => c)) _ 1 _ rfl (src_sp _ _ _) (by simp only [maxLen]; omega) (by omega) ?_))
                intro v1 w4 G1 hr1 hm1 hg1
                have hmw : Mvs (fun k => some k = G) w3 w4 := ((Mvs.refl _ _).alloc _).trans' hm1 (fun _ _ h => h)
                have HM4 : Hid (Mvs (fun k => k = w.heap.size) w1 w4) := HM3.out.trans' hmw (fun i hi e => by
                  rcases hg.out i e.symm with h | h
                  · exact h
                  · omega)
                have HO4 : Hid (OutS w w1 w4 v1 (xs ++ [⟨a, a + (n + 1), t2⟩])) := by
                  refine ⟨G1, ?_, ?_⟩
                  · rw [spC_snoc, List.length_append]
                    have : Sp.cs ⟨a, a + (n + 1), t2⟩ = [.int .i64 (a : Int), .int .i64 ((a : Int) + ((n : Int) + 1)), .int .i64 (t2 : Int)] := by simp [Sp.cs]
                    rw [this]
                    exact hr1
                  · rintro g rfl
                    rcases hg1 with e | e
                    · exact hg.out g e.symm
                    · have := Option.some.inj e
                      exact .inr (by omega)
                obtain ⟨A1, c1, rfl⟩ := hr1.form
                clear hr1 hm1 hg1 hr3 hmw
                go_wp2
                go_roundw
                case rel =>
                  refine ⟨i2, t2, _, rfl, rfl, hi2l, by simp; omega, ?_, ?_, HO4, HM4⟩
                  · show _ = _
                    rw [← HT2.out, HA.out, ← HI2.out, HTT.out]
                  · show _ = _
                    rw [← HR.out, HY.out]
                    simp [Function.comp_def]
                case measure => simp [intOf]; omega
        · have h10' : ¬ ((c.toNat : Int) = 10) := by
            intro e
            exact h10 (UInt8.toNat_inj.1 (by simpa using (by omega : c.toNat = 10)))
          have HN : Hid (scanV s = none) := by
            show _ = _
            have h1 := HLKd.out
            rw [← HR.out]
            rw [HD.out] at h1 ⊢
            rw [restV_open h1 HSX.out (by rw [HLast.out]; intro e; exact h10 (Option.some.inj e))]
            rfl
          go_wp2
          go_quiet ((go_at_call 28; exact Calls.quiet_of_same (HMk.out _)))
          go_wp2
          go_ret2
          exact out_no HN.out (below_mvs' HBW.out (HM.out.drewN nq) (fun j hj e => by omega) (Nat.le_refl _))
    · have HE := hide (scan_end (by omega) HR.out)
      go_wp2
      go_ret2
      refine out_yes HE.out (below_mvs' HBW.out HM.out (fun j hj e => by omega) (Nat.le_refl _)) ⟨G, hr.out, fun g e => ?_⟩
      rcases hg.out g e with h | h <;> omega
end Go.Proofs.YtcmhaihoeecjoaaGreatDoor
