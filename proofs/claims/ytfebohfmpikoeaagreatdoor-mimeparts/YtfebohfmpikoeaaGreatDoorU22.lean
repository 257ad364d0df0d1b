/- The document's Type of layer 10. -/
import Derived.Test.YtfebohfmpikoeaaGreatDoorU12
import Derived.Test.YtfebohfmpikoeaaGreatDoorU18
namespace Go.Proofs.YtfebohfmpikoeaaGreatDoor
open Go.RowKit Go.Shelf
theorem wordsF_bd : ∀ (n : Nat) (r : List UInt8) (ws : List Wd), wordsF n r = some ws → ws.length ≤ r.length ∧ ∀ x ∈ ws, x.text.length ≤ r.length
  | 0, _, _, h => by cases h
  | _ + 1, [], ws, h => by
    cases h
    simp
  | n + 1, c :: r, ws, h => by
    rw [wordsF] at h
    split at h
    · have := wordsF_bd n r ws h
      exact ⟨by simp; omega, fun x hx => by have := this.2 x hx; simp; omega⟩
    · split at h
      · next ht =>
        obtain ⟨y, h1, h2⟩ := Option.map_eq_some_iff.1 h
        cases h2
        have ih := wordsF_bd n _ y h1
        have hd := dropTok_len (r := r) ht
        have ha := congrArg List.length (List.takeWhile_append_dropWhile (p := tokB) (l := c :: r))
        rw [List.length_append] at ha
        refine ⟨by simp; omega, fun x hx => ?_⟩
        rcases List.mem_cons.1 hx with rfl | hx
        · dsimp only
          omega
        · have := ih.2 x hx
          simp
          omega
      · split at h
        · obtain ⟨q, h1, h3⟩ := Option.bind_eq_some_iff.1 h
          obtain ⟨y, h2, h4⟩ := Option.map_eq_some_iff.1 h3
          cases h4
          have hq := quoS_len (m := q.1) (x := q.2) h1
          have ih := wordsF_bd n _ y h2
          refine ⟨by simp; omega, fun x hx => ?_⟩
          rcases List.mem_cons.1 hx with rfl | hx
          · simp
            omega
          · have := ih.2 x hx
            simp
            omega
        · obtain ⟨y, h1, h2⟩ := Option.map_eq_some_iff.1 h
          cases h2
          have ih := wordsF_bd n r y h1
          refine ⟨by simp; omega, fun x hx => ?_⟩
          rcases List.mem_cons.1 hx with rfl | hx
          · simp
          · have := ih.2 x hx
            simp
            omega
theorem wds_bd {l : List UInt8} {ws : List Wd} (h : wds l = some ws) : ws.length ≤ l.length ∧ ∀ x ∈ ws, x.text.length ≤ l.length := wordsF_bd _ _ _ h
/-- What the document's Type answers. -/
def RTOut (s : List UInt8) (w : World) (e : Ending) (w' : World) : Prop := Below w.heap.size w w' ∧ match typeO s with
  | some (t, u, ps) => ∃ v, e = .returned (.tuple #[.string ⟨t.toArray⟩, .string ⟨u.toArray⟩, v, .bool true]) ∧ RowOf Pm.cs 2 w.heap.size w' v ps
  | none => e = .returned (.tuple #[.string ⟨#[]⟩, .string ⟨#[]⟩, .slice none 0 0, .bool false])
theorem rtNo {s : List UInt8} {w w' : World} (h : typeO s = none) (hb : Below w.heap.size w w') : RTOut s w (.returned (.tuple #[.string ⟨#[]⟩, .string ⟨#[]⟩, .slice none 0 0, .bool false])) w' := by
  unfold RTOut
  rw [h]
  exact ⟨hb, rfl⟩
theorem rtYes {s t u : List UInt8} {ps : List Pm} {v : Value} {w w' : World} (h : typeO s = some (t, u, ps)) (hb : Below w.heap.size w w') (hr : RowOf Pm.cs 2 w.heap.size w' v ps) : RTOut s w (.returned (.tuple #[.string ⟨t.toArray⟩, .string ⟨u.toArray⟩, v, .bool true])) w' := by
  unfold RTOut
  rw [h]
  exact ⟨hb, v, rfl, hr⟩
/-- A word in a row. -/
theorem wd_at {B : Nat} {w : World} {v : Value} {ws : List Wd} (h : RowOf Wd.cs 2 B w v ws) (i : Nat) (x : Wd) (hx : ws[i]? = some x) : ∃ g o cap, v = .slice (some ⟨g, o, none⟩) ws.length cap ∧ B ≤ g ∧ g < w.heap.size ∧ w.cell? ⟨g, o + i * 2, none⟩ = some (.int .i64 (x.kind : Nat)) ∧ w.cell? ⟨g, o + i * 2 + 1, none⟩ = some (.string ⟨x.text.toArray⟩) := by
  obtain ⟨hi, rfl⟩ := List.getElem?_eq_some_iff.1 hx
  obtain ⟨g, o, cap, e, _, _, h1, h2, h3⟩ := h.read wd_len i hi
  exact ⟨g, o, cap, e, h1, h2, h3 0 (by omega), h3 1 (by omega)⟩
set_option linter.unusedSimpArgs false in
set_option linter.unusedVariables false in
set_option maxRecDepth 20000 in
set_option maxHeartbeats 4000000 in
theorem rtype_any (l : List UInt8) (w : World) (hl : l.length ≤ 1000000) : Calls Tryz.prog 11 #[.string ⟨l.toArray⟩] w (RTOut l w) := by
  obtain ⟨i0, hi, hz0, hz1, hz2⟩ := info_three pmInfo
  have HW := hide (words_any l w hl)
  have HTY := hide (type_eq l)
  go_enter Tryz.func11, Tryz.ntmps11
  go_wp2_with fail
  refine HW.out.mono ?_
  rintro e w1 ⟨hb1, ho⟩
  replace hb1 := hide hb1
  cases hw : wds l with
  | none =>
    rw [hw] at ho HTY
    subst ho
    have HNo : Hid (typeO l = none) := HTY.out
    clear HTY hw
    go_wp2
    exact bodyPost_ret (v := .tuple #[.string ⟨#[]⟩, .string ⟨#[]⟩, .slice none 0 0, .bool false]) (by simp [results, Tryz.results11, go_sem]) rfl (rtNo HNo.out hb1.out)
  | some ws =>
    have hbd := hide (wds_bd hw)
    rw [hw] at ho HTY
    obtain ⟨v, rfl, hrow⟩ := ho
    have HTY1 : Hid (typeO l = docT ws) := HTY.out
    obtain ⟨A, cp, rfl⟩ := hrow.form
    have HRow := hide hrow
    have hNl : ws.length ≤ 1000000 := by have := hbd.out.1; omega
    clear HTY hw hrow HW
    obtain ⟨N, hN⟩ : ∃ N, ws.length = N := ⟨_, rfl⟩
    have HN := hide hN
    rw [hN] at hNl ⊢
    clear hN
    by_cases h3 : N < 3
    · have HNo : Hid (typeO l = none) := by
        show _ = _
        rw [HTY1.out]
        have := HN.out
        rcases ws with _ | ⟨a, _ | ⟨b, _ | ⟨c, r⟩⟩⟩
        · rfl
        · rfl
        · rfl
        · simp at this
          omega
      have h3' : (N : Int) < 3 := by omega
      go_wp2
      exact bodyPost_ret (v := .tuple #[.string ⟨#[]⟩, .string ⟨#[]⟩, .slice none 0 0, .bool false]) (by simp [results, Tryz.results11, go_sem]) rfl (rtNo HNo.out hb1.out)
    · have h3' : ¬ (N : Int) < 3 := by omega
      obtain ⟨a, b, c, r, hws⟩ : ∃ a b c r, ws = a :: b :: c :: r := by
        have := HN.out
        rcases ws with _ | ⟨a, _ | ⟨b, _ | ⟨c, r⟩⟩⟩
        · simp at this; omega
        · simp at this; omega
        · simp at this; omega
        · exact ⟨a, b, c, r, rfl⟩
      have HWS := hide hws
      clear hws
      by_cases h4 : N % 4 = 3
      · have h4' : (N : Int) % 4 = 3 := by omega
        obtain ⟨ka, ta⟩ := a
        obtain ⟨kb, tb⟩ := b
        obtain ⟨kc, tc⟩ := c
        obtain ⟨g, o, cap, hv, hBg, hgl, qa0, qa1⟩ := wd_at HRow.out 0 ⟨ka, ta⟩ (by rw [HWS.out]; rfl)
        obtain ⟨rfl, rfl⟩ : A = some ⟨g, o, none⟩ ∧ cp = cap := by
          have := hv
          simp at this
          exact ⟨this.1, this.2⟩
        obtain ⟨g2, o2, cap2, hv2, _, _, qb0, qb1⟩ := wd_at HRow.out 1 ⟨kb, tb⟩ (by rw [HWS.out]; rfl)
        obtain ⟨rfl, rfl, rfl⟩ : g = g2 ∧ o = o2 ∧ cp = cap2 := by
          simp at hv2
          exact ⟨hv2.1.1, hv2.1.2, hv2.2⟩
        obtain ⟨g3, o3, cap3, hv3, _, _, qc0, qc1⟩ := wd_at HRow.out 2 ⟨kc, tc⟩ (by rw [HWS.out]; rfl)
        obtain ⟨rfl, rfl, rfl⟩ : g = g3 ∧ o = o3 ∧ cp = cap3 := by
          simp at hv3
          exact ⟨hv3.1.1, hv3.1.2, hv3.2⟩
        simp only [Nat.zero_mul, Nat.one_mul, Nat.add_zero, Nat.reduceMul, Nat.add_assoc, Nat.reduceAdd] at qa0 qa1 qb0 qb1 qc0 qc1
        clear hv hv2 hv3
        have i0' : (0 : Int) < N := by omega
        have i1' : (1 : Int) < N := by omega
        have i2' : (2 : Int) < N := by omega
        have hat := hide (fun i x (hx : ws[i]? = some x) => wd_at HRow.out i x hx)
        have hneg : ∀ {h : Prop}, (docT ws = none) → typeO l = none := fun h => by rw [HTY1.out, h]
        by_cases h : ¬ (ka = 1)
        · have hf : ((ka : Int) == 1) = false := by simpa using (fun e : (ka : Int) = 1 => h (by omega))
          have hf2 : ¬ ((ka : Int) = 1) := fun e => h (by omega)
          have hf3 : (((ka : Nat) : Int) != 1) = true := by simp only [bne, hf, Bool.not_false]
          have HNo : Hid (typeO l = none) := by
            show _ = _
            rw [HTY1.out, HWS.out, docT, if_neg (fun k => h k.1)]
          clear hat h
          go_wp2
          exact bodyPost_ret (v := .tuple #[.string ⟨#[]⟩, .string ⟨#[]⟩, .slice none 0 0, .bool false]) (by simp [results, Tryz.results11, go_sem]) rfl (rtNo HNo.out hb1.out)
        replace h := Classical.not_not.1 h
        subst h
        by_cases h : ¬ (tb = [47])
        · have hf : (tb == [47]) = false := by simpa using h
          skip
          have HNo : Hid (typeO l = none) := by
            show _ = _
            rw [HTY1.out, HWS.out, docT, if_neg (fun k => h k.2.1)]
          clear hat h
          go_wp2
          exact bodyPost_ret (v := .tuple #[.string ⟨#[]⟩, .string ⟨#[]⟩, .slice none 0 0, .bool false]) (by simp [results, Tryz.results11, go_sem]) rfl (rtNo HNo.out hb1.out)
        replace h := Classical.not_not.1 h
        subst h
        by_cases h : ¬ (kb = 3)
        · have hf : ((kb : Int) == 3) = false := by simpa using (fun e : (kb : Int) = 3 => h (by omega))
          have hf2 : ¬ ((kb : Int) = 3) := fun e => h (by omega)
          have hf3 : (((kb : Nat) : Int) != 3) = true := by simp only [bne, hf, Bool.not_false]
          have HNo : Hid (typeO l = none) := by
            show _ = _
            rw [HTY1.out, HWS.out, docT, if_neg (fun k => h k.2.2.1)]
          clear hat h
          go_wp2
          exact bodyPost_ret (v := .tuple #[.string ⟨#[]⟩, .string ⟨#[]⟩, .slice none 0 0, .bool false]) (by simp [results, Tryz.results11, go_sem]) rfl (rtNo HNo.out hb1.out)
        replace h := Classical.not_not.1 h
        subst h
        by_cases h : ¬ (kc = 1)
        · have hf : ((kc : Int) == 1) = false := by simpa using (fun e : (kc : Int) = 1 => h (by omega))
          have hf2 : ¬ ((kc : Int) = 1) := fun e => h (by omega)
          have hf3 : (((kc : Nat) : Int) != 1) = true := by simp only [bne, hf, Bool.not_false]
          have HNo : Hid (typeO l = none) := by
            show _ = _
            rw [HTY1.out, HWS.out, docT, if_neg (fun k => h k.2.2.2)]
          clear hat h
          go_wp2
          exact bodyPost_ret (v := .tuple #[.string ⟨#[]⟩, .string ⟨#[]⟩, .slice none 0 0, .bool false]) (by simp [results, Tryz.results11, go_sem]) rfl (rtNo HNo.out hb1.out)
        replace h := Classical.not_not.1 h
        subst h
        have HDT : Hid (typeO l = (docP r).map fun ps => (ta.map lowB, tc.map lowB, ps)) := by
          show _ = _
          rw [HTY1.out, HWS.out, docT, if_pos ⟨rfl, rfl, rfl, rfl⟩]
        obtain ⟨DP, hDP⟩ : ∃ DP, docP r = DP := ⟨_, rfl⟩
        rw [hDP] at HDT
        have HDP := hide hDP
        have HDr : Hid (∀ i, 3 ≤ i → ws.drop i = r.drop (i - 3)) := fun i hi3 => by
          rw [HWS.out]
          obtain ⟨j, rfl⟩ : ∃ j, i = j + 3 := ⟨i - 3, by omega⟩
          simp
        have htl : ta.length ≤ 1000000 ∧ tc.length ≤ 1000000 := by
          have h1 := hbd.out.2 ⟨1, ta⟩ (by rw [HWS.out]; simp)
          have h2 := hbd.out.2 ⟨1, tc⟩ (by rw [HWS.out]; simp)
          dsimp only at h1 h2
          omega
        have htA := htl.1
        have htC := htl.2
        have hBs := hb1.out.size
        clear hDP HTY1 hneg htl
        go_wp2
        go_loopw [8, 9] (fun v8 v9 wr => ∃ (i : Nat) (ps : List Pm), v9 = .int .i64 i ∧ 3 ≤ i ∧ i ≤ N ∧ i % 4 = 3 ∧ ps.length ≤ i ∧ Hid (Below w1.heap.size w1 wr) ∧ Hid (RowOf Pm.cs 2 w1.heap.size wr v8 ps) ∧ Hid ((docP (ws.drop i)).map (ps ++ ·) = DP)) (fun _ v9 _ => N - (intOf v9).toNat)
        case atStart => exact ⟨3, [], rfl, Nat.le_refl _, by omega, rfl, Nat.zero_le _, (Below.refl _ _).alloc (Nat.le_refl _) _, ⟨some w1.heap.size, Rw.new (e := 32) [] [] (Blk.new _ _ _) rfl rfl (Nat.le_refl _) (Nat.zero_le _), by simp⟩, by rw [HDr.out 3 (Nat.le_refl _)]; show _ = _; rw [show r.drop (3 - 3) = r from rfl, HDP.out]; cases DP <;> simp⟩
        case round =>
          obtain ⟨i, ps, rfl, hi3, hiN, hi4, hpi, HB, HRp, HE⟩ := hrel
          obtain ⟨G, hrw, hg⟩ := HRp.out
          obtain ⟨A, cp8, rfl⟩ := hrw.form
          have HRw := hide hrw
          have HG := hide hg
          have hbs := HB.out.size
          clear hrw hg
          by_cases hlt : i < N
          · have hi7 : i + 3 < N := by omega
            obtain ⟨x0, x1, x2, x3, hx0, hx1, hx2, hx3, hdr⟩ : ∃ x0 x1 x2 x3, ws[i]? = some x0 ∧ ws[i + 1]? = some x1 ∧ ws[i + 2]? = some x2 ∧ ws[i + 3]? = some x3 ∧ ws.drop i = x0 :: x1 :: x2 :: x3 :: ws.drop (i + 4) := by
              have h0 : i < ws.length := by rw [HN.out]; omega
              have h1 : i + 1 < ws.length := by rw [HN.out]; omega
              have h2 : i + 2 < ws.length := by rw [HN.out]; omega
              have h3 : i + 3 < ws.length := by rw [HN.out]; omega
              exact ⟨_, _, _, _, List.getElem?_eq_getElem h0, List.getElem?_eq_getElem h1, List.getElem?_eq_getElem h2, List.getElem?_eq_getElem h3, by rw [List.drop_eq_getElem_cons h0, List.drop_eq_getElem_cons h1, List.drop_eq_getElem_cons h2, List.drop_eq_getElem_cons h3]⟩
            obtain ⟨k0, t0⟩ := x0
            obtain ⟨k1, t1⟩ := x1
            obtain ⟨k2, t2⟩ := x2
            obtain ⟨k3, t3⟩ := x3
            have hm1 := hbd.out.2 _ (List.mem_of_getElem? hx1)
            dsimp only at hm1
            obtain ⟨g2, o2, cap2, hv2, _, _, q00, q01⟩ := hat.out i _ hx0
            obtain ⟨rfl, rfl, rfl⟩ : g = g2 ∧ o = o2 ∧ cp = cap2 := by
              simp at hv2
              exact ⟨hv2.1.1, hv2.1.2, hv2.2⟩
            obtain ⟨g2, o2, cap2, hv3, _, _, q10, q11⟩ := hat.out (i + 1) _ hx1
            obtain ⟨rfl, rfl, rfl⟩ : g = g2 ∧ o = o2 ∧ cp = cap2 := by
              simp at hv3
              exact ⟨hv3.1.1, hv3.1.2, hv3.2⟩
            obtain ⟨g2, o2, cap2, hv4, _, _, q20, q21⟩ := hat.out (i + 2) _ hx2
            obtain ⟨rfl, rfl, rfl⟩ : g = g2 ∧ o = o2 ∧ cp = cap2 := by
              simp at hv4
              exact ⟨hv4.1.1, hv4.1.2, hv4.2⟩
            obtain ⟨g2, o2, cap2, hv5, _, _, q30, q31⟩ := hat.out (i + 3) _ hx3
            obtain ⟨rfl, rfl, rfl⟩ : g = g2 ∧ o = o2 ∧ cp = cap2 := by
              simp at hv5
              exact ⟨hv5.1.1, hv5.1.2, hv5.2⟩
            have HQ := hide (And.intro q11 q31)
            replace q00 := (HB.out.cell (p := ⟨g, o + i * 2, none⟩) hgl).trans q00
            replace q01 := (HB.out.cell (p := ⟨g, o + i * 2 + 1, none⟩) hgl).trans q01
            replace q10 := (HB.out.cell (p := ⟨g, o + (i + 1) * 2, none⟩) hgl).trans q10
            replace q11 := (HB.out.cell (p := ⟨g, o + (i + 1) * 2 + 1, none⟩) hgl).trans q11
            replace q20 := (HB.out.cell (p := ⟨g, o + (i + 2) * 2, none⟩) hgl).trans q20
            replace q21 := (HB.out.cell (p := ⟨g, o + (i + 2) * 2 + 1, none⟩) hgl).trans q21
            replace q30 := (HB.out.cell (p := ⟨g, o + (i + 3) * 2, none⟩) hgl).trans q30
            replace q31 := (HB.out.cell (p := ⟨g, o + (i + 3) * 2 + 1, none⟩) hgl).trans q31
            have HDi := hide hdr
            clear hv2 hv3 hv4 hv5 hx0 hx1 hx2 hx3 hdr
            have j0 : (i : Int) < N := by omega
            have j1 : (i : Int) + 1 < N := by omega
            have j2 : (i : Int) + 2 < N := by omega
            have j3 : (i : Int) + 3 < N := by omega
            by_cases h : ¬ (k0 = 3)
            · have hf : ((k0 : Int) == 3) = false := by simpa using (fun e : (k0 : Int) = 3 => h (by omega))
              have hf2 : ¬ ((k0 : Int) = 3) := fun e => h (by omega)
              have hf3 : (((k0 : Nat) : Int) != 3) = true := by simp only [bne, hf, Bool.not_false]
              have HNo : Hid (typeO l = none) := by
                have h9 := HE.out
                rw [HDi.out, docP, if_neg (fun k => h k.1)] at h9
                show _ = _
                rw [HDT.out, ← h9]
                rfl
              clear h
              go_wp2
              exact bodyPost_ret (v := .tuple #[.string ⟨#[]⟩, .string ⟨#[]⟩, .slice none 0 0, .bool false]) (by simp [results, Tryz.results11, go_sem]) rfl (rtNo HNo.out (hb1.out.trans (HB.out.mono hBs)))
            replace h := Classical.not_not.1 h
            subst h
            by_cases h : ¬ (t0 = [59])
            · have hf : (t0 == [59]) = false := by simpa using h
              skip
              have HNo : Hid (typeO l = none) := by
                have h9 := HE.out
                rw [HDi.out, docP, if_neg (fun k => h k.2.1)] at h9
                show _ = _
                rw [HDT.out, ← h9]
                rfl
              clear h
              go_wp2
              exact bodyPost_ret (v := .tuple #[.string ⟨#[]⟩, .string ⟨#[]⟩, .slice none 0 0, .bool false]) (by simp [results, Tryz.results11, go_sem]) rfl (rtNo HNo.out (hb1.out.trans (HB.out.mono hBs)))
            replace h := Classical.not_not.1 h
            subst h
            by_cases h : ¬ (k1 = 1)
            · have hf : ((k1 : Int) == 1) = false := by simpa using (fun e : (k1 : Int) = 1 => h (by omega))
              have hf2 : ¬ ((k1 : Int) = 1) := fun e => h (by omega)
              have hf3 : (((k1 : Nat) : Int) != 1) = true := by simp only [bne, hf, Bool.not_false]
              have HNo : Hid (typeO l = none) := by
                have h9 := HE.out
                rw [HDi.out, docP, if_neg (fun k => h k.2.2.1)] at h9
                show _ = _
                rw [HDT.out, ← h9]
                rfl
              clear h
              go_wp2
              exact bodyPost_ret (v := .tuple #[.string ⟨#[]⟩, .string ⟨#[]⟩, .slice none 0 0, .bool false]) (by simp [results, Tryz.results11, go_sem]) rfl (rtNo HNo.out (hb1.out.trans (HB.out.mono hBs)))
            replace h := Classical.not_not.1 h
            subst h
            by_cases h : ¬ (k2 = 3)
            · have hf : ((k2 : Int) == 3) = false := by simpa using (fun e : (k2 : Int) = 3 => h (by omega))
              have hf2 : ¬ ((k2 : Int) = 3) := fun e => h (by omega)
              have hf3 : (((k2 : Nat) : Int) != 3) = true := by simp only [bne, hf, Bool.not_false]
              have HNo : Hid (typeO l = none) := by
                have h9 := HE.out
                rw [HDi.out, docP, if_neg (fun k => h k.2.2.2.1)] at h9
                show _ = _
                rw [HDT.out, ← h9]
                rfl
              clear h
              go_wp2
              exact bodyPost_ret (v := .tuple #[.string ⟨#[]⟩, .string ⟨#[]⟩, .slice none 0 0, .bool false]) (by simp [results, Tryz.results11, go_sem]) rfl (rtNo HNo.out (hb1.out.trans (HB.out.mono hBs)))
            replace h := Classical.not_not.1 h
            subst h
            by_cases h : ¬ (t2 = [61])
            · have hf : (t2 == [61]) = false := by simpa using h
              skip
              have HNo : Hid (typeO l = none) := by
                have h9 := HE.out
                rw [HDi.out, docP, if_neg (fun k => h k.2.2.2.2.1)] at h9
                show _ = _
                rw [HDT.out, ← h9]
                rfl
              clear h
              go_wp2
              exact bodyPost_ret (v := .tuple #[.string ⟨#[]⟩, .string ⟨#[]⟩, .slice none 0 0, .bool false]) (by simp [results, Tryz.results11, go_sem]) rfl (rtNo HNo.out (hb1.out.trans (HB.out.mono hBs)))
            replace h := Classical.not_not.1 h
            subst h
            by_cases h : k3 = 3
            · subst h
              have HNo : Hid (typeO l = none) := by
                have h9 := HE.out
                rw [HDi.out, docP, if_neg (fun k => k.2.2.2.2.2 rfl)] at h9
                show _ = _
                rw [HDT.out, ← h9]
                rfl
              go_wp2
              exact bodyPost_ret (v := .tuple #[.string ⟨#[]⟩, .string ⟨#[]⟩, .slice none 0 0, .bool false]) (by simp [results, Tryz.results11, go_sem]) rfl (rtNo HNo.out (hb1.out.trans (HB.out.mono hBs)))
            have hf : ((k3 : Int) == 3) = false := by simpa using (fun e : (k3 : Int) = 3 => h (by omega))
            have hf2 : ¬ ((k3 : Int) = 3) := fun e => h (by omega)
            have HE2 : Hid ((docP (ws.drop (i + 4))).map ((ps ++ [⟨t1.map lowB, t3⟩]) ++ ·) = DP) := by
              have h9 := HE.out
              rw [HDi.out, docP, if_pos ⟨rfl, rfl, rfl, rfl, rfl, h⟩] at h9
              show _ = _
              rw [← h9]
              cases docP (ws.drop (i + 4)) <;> simp
            have HSm := hide (fun w => rsmall_any t1 w (by omega))
            obtain ⟨n1, hn1⟩ : ∃ n1, t1.map lowB = n1 := ⟨_, rfl⟩
            rw [hn1] at HE2 HSm
            clear h HDi hn1 hm1
            go_wp2_with fail
            have g4 : ((i : Int) + 1).toNat = i + 1 := by omega
            have g5 : ((i : Int) + 3).toNat = i + 3 := by omega
            have g6 : IntKind.i64.wrap ((i : Int) + 1) = (i : Int) + 1 := wrap_nat (by omega) (by omega)
            have g7 : IntKind.i64.wrap ((i : Int) + 3) = (i : Int) + 3 := wrap_nat (by omega) (by omega)
            have g8 : (0 : Int) ≤ (i : Int) + 1 := by omega
            have g9 : (0 : Int) ≤ (i : Int) + 3 := by omega
            refine regionL 17 (fun W => W.cell? ⟨g, o + (i + 1) * 2 + 1, none⟩ = some (.string ⟨t1.toArray⟩) ∧ W.cell? ⟨g, o + (i + 3) * 2 + 1, none⟩ = some (.string ⟨t3.toArray⟩)) (by kernel_rfl) ?_
            have HT0 : wr.drew.cell? ⟨g, o + (i + 1) * 2 + 1, none⟩ = some (.string ⟨t1.toArray⟩) ∧ wr.drew.cell? ⟨g, o + (i + 3) * 2 + 1, none⟩ = some (.string ⟨t3.toArray⟩) := ⟨q11, q31⟩
            have HQb := hide q11
            have HQd := hide q31
            clear q00 q01 q10 q11 q20 q21 q30 q31
            refine takeW (i := 0) (v := (.slice A ps.length cp8)) rfl (by kernel_rfl) (by kernel_rfl) (by kernel_rfl) rfl (fun _ _ _ h => h) (fun _ => HT0) (Or.inl ⟨by rfl, fun W _ => by go_simp⟩) ?_
            simp only [Act.put, List.getElem_toArray, List.getElem_cons_succ, List.getElem_cons_zero, List.setIfInBounds_toArray, List.set_cons_zero, List.set_cons_succ]
            refine takeW (i := 1) (v := (.slice (some ⟨g, o, none⟩) N cp)) rfl (by kernel_rfl) (by kernel_rfl) (by kernel_rfl) rfl (fun _ _ _ h => h) (fun _ => HT0) (Or.inl ⟨by rfl, fun W _ => by go_simp⟩) ?_
            simp only [Act.put, List.getElem_toArray, List.getElem_cons_succ, List.getElem_cons_zero, List.setIfInBounds_toArray, List.set_cons_zero, List.set_cons_succ]
            refine takeW (i := 2) (v := (.int .i64 (i : Int))) rfl (by kernel_rfl) (by kernel_rfl) (by kernel_rfl) rfl (fun _ _ _ h => h) (fun _ => HT0) (Or.inl ⟨by rfl, fun W _ => by go_simp⟩) ?_
            simp only [Act.put, List.getElem_toArray, List.getElem_cons_succ, List.getElem_cons_zero, List.setIfInBounds_toArray, List.set_cons_zero, List.set_cons_succ]
            refine takeW (i := 3) (v := (.int .i64 ((i : Int) + 1))) rfl (by kernel_rfl) (by kernel_rfl) (by kernel_rfl) rfl (fun _ _ _ h => h) (fun _ => HT0) (Or.inl ⟨by rfl, fun W _ => by go_simp⟩) ?_
            simp only [Act.put, List.getElem_toArray, List.getElem_cons_succ, List.getElem_cons_zero, List.setIfInBounds_toArray, List.set_cons_zero, List.set_cons_succ]
            refine takeW (i := 4) (v := (.pointer (some ⟨g, o + (i + 1) * 2, none⟩))) rfl (by kernel_rfl) (by kernel_rfl) (by kernel_rfl) rfl (fun _ _ _ h => h) (fun _ => HT0) (Or.inl ⟨by rfl, fun W _ => by go_simp⟩) ?_
            simp only [Act.put, List.getElem_toArray, List.getElem_cons_succ, List.getElem_cons_zero, List.setIfInBounds_toArray, List.set_cons_zero, List.set_cons_succ]
            refine takeW (i := 5) (v := (.pointer (some ⟨g, o + (i + 1) * 2 + 1, none⟩))) rfl (by kernel_rfl) (by kernel_rfl) (by kernel_rfl) rfl (fun _ _ _ h => h) (fun _ => HT0) (Or.inl ⟨by rfl, fun W _ => by go_simp⟩) ?_
            simp only [Act.put, List.getElem_toArray, List.getElem_cons_succ, List.getElem_cons_zero, List.setIfInBounds_toArray, List.set_cons_zero, List.set_cons_succ]
            refine takeL (i := 6) (v := (.string ⟨t1.toArray⟩)) rfl (by kernel_rfl) (by kernel_rfl) (by kernel_rfl) (by kernel_rfl) (by kernel_rfl) (fun _ _ _ h => h) HT0 (Or.inl ⟨by rfl, fun W hW => by obtain ⟨t0, t1⟩ := hW; go_simp⟩) ?_
            simp only [Act.put, List.getElem_toArray, List.getElem_cons_succ, List.getElem_cons_zero, List.setIfInBounds_toArray, List.set_cons_zero, List.set_cons_succ]
            refine takeW (i := 8) (v := (.slice (some ⟨g, o, none⟩) N cp)) rfl (by kernel_rfl) (by kernel_rfl) (by kernel_rfl) rfl (fun _ _ _ h => h) (fun _ => HT0) (Or.inl ⟨by rfl, fun W _ => by go_simp⟩) ?_
            simp only [Act.put, List.getElem_toArray, List.getElem_cons_succ, List.getElem_cons_zero, List.setIfInBounds_toArray, List.set_cons_zero, List.set_cons_succ]
            refine takeW (i := 9) (v := (.int .i64 (i : Int))) rfl (by kernel_rfl) (by kernel_rfl) (by kernel_rfl) rfl (fun _ _ _ h => h) (fun _ => HT0) (Or.inl ⟨by rfl, fun W _ => by go_simp⟩) ?_
            simp only [Act.put, List.getElem_toArray, List.getElem_cons_succ, List.getElem_cons_zero, List.setIfInBounds_toArray, List.set_cons_zero, List.set_cons_succ]
            refine takeW (i := 10) (v := (.int .i64 ((i : Int) + 3))) rfl (by kernel_rfl) (by kernel_rfl) (by kernel_rfl) rfl (fun _ _ _ h => h) (fun _ => HT0) (Or.inl ⟨by rfl, fun W _ => by go_simp⟩) ?_
            simp only [Act.put, List.getElem_toArray, List.getElem_cons_succ, List.getElem_cons_zero, List.setIfInBounds_toArray, List.set_cons_zero, List.set_cons_succ]
            refine takeW (i := 11) (v := (.pointer (some ⟨g, o + (i + 3) * 2, none⟩))) rfl (by kernel_rfl) (by kernel_rfl) (by kernel_rfl) rfl (fun _ _ _ h => h) (fun _ => HT0) (Or.inl ⟨by rfl, fun W _ => by go_simp⟩) ?_
            simp only [Act.put, List.getElem_toArray, List.getElem_cons_succ, List.getElem_cons_zero, List.setIfInBounds_toArray, List.set_cons_zero, List.set_cons_succ]
            refine takeW (i := 12) (v := (.pointer (some ⟨g, o + (i + 3) * 2 + 1, none⟩))) rfl (by kernel_rfl) (by kernel_rfl) (by kernel_rfl) rfl (fun _ _ _ h => h) (fun _ => HT0) (Or.inl ⟨by rfl, fun W _ => by go_simp⟩) ?_
            simp only [Act.put, List.getElem_toArray, List.getElem_cons_succ, List.getElem_cons_zero, List.setIfInBounds_toArray, List.set_cons_zero, List.set_cons_succ]
            refine takeL (i := 13) (v := (.string ⟨t3.toArray⟩)) rfl (by kernel_rfl) (by kernel_rfl) (by kernel_rfl) (by kernel_rfl) (by kernel_rfl) (fun _ _ _ h => h) HT0 (Or.inl ⟨by rfl, fun W hW => by obtain ⟨t0, t1⟩ := hW; go_simp⟩) ?_
            simp only [Act.put, List.getElem_toArray, List.getElem_cons_succ, List.getElem_cons_zero, List.setIfInBounds_toArray, List.set_cons_zero, List.set_cons_succ]
            refine readyL (rs := [7]) (by kernel_rfl) (by simp) ?_
            refine AllL.cons rfl (fun K hK => ?_) AllL.nil
            try simp only [List.getElem_toArray, List.getElem_cons_succ, List.getElem_cons_zero]
            go_simp
            refine (HSm.out _).mono ?_
            rintro e w6 ⟨rfl, hb6⟩
            have hb6' : Below wr.heap.size wr w6 := ⟨hb6.os, hb6.tape, hb6.output, hb6.size, hb6.block⟩
            have HM6 := hide (Mvs.of_below (S := fun _ => False) hb6')
            have hs6 := hb6'.size
            have hgw : g < wr.heap.size := by omega
            have HT6 := hide (And.intro ((hb6'.cell (p := ⟨g, o + (i + 1) * 2 + 1, none⟩) hgw).trans HQb.out) ((hb6'.cell (p := ⟨g, o + (i + 3) * 2 + 1, none⟩) hgw).trans HQd.out))
            have HB6 := hide (HB.out.trans (hb6'.mono hbs))
            clear hb6 hb6'
            refine hK.out _ _ (fun _ => HT6.out) (fun HTn => ?_)
            clear hK K HT0
            have HT0 := HTn (by kernel_rfl)
            clear HTn
            try simp only [Act.put, List.getElem_toArray, List.getElem_cons_succ, List.getElem_cons_zero, List.setIfInBounds_toArray, List.set_cons_zero, List.set_cons_succ]
            refine takeW (i := 14) (v := (.agg #[.string ⟨n1.toArray⟩, .string ⟨t3.toArray⟩])) rfl (by kernel_rfl) (by kernel_rfl) (by kernel_rfl) rfl (fun _ _ _ h => h) (fun _ => HT0) (Or.inl ⟨by rfl, fun W _ => by go_simp⟩) ?_
            simp only [Act.put, List.getElem_toArray, List.getElem_cons_succ, List.getElem_cons_zero, List.setIfInBounds_toArray, List.set_cons_zero, List.set_cons_succ]
            refine readyL (rs := [15]) (by kernel_rfl) (by simp) ?_
            refine AllL.cons rfl (fun K hK => ?_) AllL.nil
            try simp only [List.getElem_toArray, List.getElem_cons_succ, List.getElem_cons_zero]
            go_simp
            have hgw6 : g < w6.heap.size := by omega
            have HT7 := hide (And.intro ((((Below.refl w6.heap.size w6).alloc (Nat.le_refl _) (.cells #[.string ⟨n1.toArray⟩, .string ⟨t3.toArray⟩] 32)).cell (p := ⟨g, o + (i + 1) * 2 + 1, none⟩) hgw6).trans HT6.out.1) ((((Below.refl w6.heap.size w6).alloc (Nat.le_refl _) (.cells #[.string ⟨n1.toArray⟩, .string ⟨t3.toArray⟩] 32)).cell (p := ⟨g, o + (i + 3) * 2 + 1, none⟩) hgw6).trans HT6.out.2))
            refine hK.out _ _ (fun _ => HT7.out) (fun HTn => ?_)
            clear hK K HT0
            have HT0 := HTn (by kernel_rfl)
            clear HTn
            try simp only [Act.put, List.getElem_toArray, List.getElem_cons_succ, List.getElem_cons_zero, List.setIfInBounds_toArray, List.set_cons_zero, List.set_cons_succ]
            refine readyL (rs := [16]) (by kernel_rfl) (by simp) ?_
            refine AllL.cons rfl (fun K hK => ?_) AllL.nil
            refine step_append_rw (by rfl) (.tmp 113) (.tmp 128) 23 23 (by rfl) 32 i0 (.agg #[.string ⟨#[]⟩, .string ⟨#[]⟩]) 2 32 Tryz.underlying23 hi hz0 hz1 hz2 (by rfl) (by simp [Act.eval, Act.put]) (HRw.out.keep (S := fun _ => False) (HM6.out.alloc _) (fun _ _ c => c)) (.slice (some ⟨w6.heap.size, 0, none⟩) 1 1) 1 (Pm.cs ⟨n1, t3⟩) (by simp [Act.eval, Act.put]) (src_pm ⟨n1, t3⟩) (by simp only [maxLen]; omega) (by omega) ?_
            intro v8 w8 G8 hr8 hm8 hg8
            obtain ⟨A8, c8, rfl⟩ := hr8.form
            have HRow8 := hide (RowOf.grow (wr := w6.alloc (.cells #[.string ⟨n1.toArray⟩, .string ⟨t3.toArray⟩] 32)) HG.out hr8 hg8 (by rw [World.size_alloc]; omega))
            have HB8 := hide (below_mvs (HB6.out.alloc (by omega) _) hm8 (fun q hq e => by have := HG.out q e.symm; omega) (Nat.le_refl _))
            have hgw7 : g < (w6.alloc (.cells #[.string ⟨n1.toArray⟩, .string ⟨t3.toArray⟩] 32)).heap.size := by rw [World.size_alloc]; omega
            have hgG : ¬ some g = G := fun e => by have := HG.out g e.symm; omega
            have HT8 := hide (And.intro ((hm8.cell (a := ⟨g, o + (i + 1) * 2 + 1, none⟩) hgw7 hgG).trans HT7.out.1) ((hm8.cell (a := ⟨g, o + (i + 3) * 2 + 1, none⟩) hgw7 hgG).trans HT7.out.2))
            clear hr8 hm8 hg8
            refine hK.out _ _ (fun _ => HT8.out) (fun _ => ?_)
            clear hK K HT0
            try simp only [Act.put, List.getElem_toArray, List.getElem_cons_succ, List.getElem_cons_zero, List.setIfInBounds_toArray, List.set_cons_zero, List.set_cons_succ]
            refine readyL (rs := [17]) (by kernel_rfl) (by simp) ?_
            refine AllL.cons rfl (fun K hK => ?_) AllL.nil
            try simp only [List.getElem_toArray, List.getElem_cons_succ, List.getElem_cons_zero]
            go_simp
            refine hK.out _ _ (vac (by kernel_rfl)) (fun _ => ?_)
            clear hK K
            try simp only [Act.put, List.getElem_toArray, List.getElem_cons_succ, List.getElem_cons_zero, List.setIfInBounds_toArray, List.set_cons_zero, List.set_cons_succ]
            refine doneL (by kernel_rfl) ?_ _
            go_wp2
            go_roundw
            case rel => exact ⟨i + 4, _, by go_num, by omega, by omega, by omega, by simp; omega, HB8, HRow8, HE2⟩
            case measure => simp [intOf]; omega
          · obtain rfl : i = N := by omega
            have HV : Hid (typeO l = some (ta.map lowB, tc.map lowB, ps)) := by
              have h9 := HE.out
              rw [List.drop_of_length_le (by rw [HN.out]; exact Nat.le_refl _), docP] at h9
              show _ = _
              rw [HDT.out, ← h9]
              simp
            have HSa : Hid (∀ (t : List UInt8) w, t.length ≤ 1000000 → Calls Tryz.prog 33 #[.string ⟨t.toArray⟩] w fun e w' => e = .returned (.string ⟨(t.map lowB).toArray⟩) ∧ Below w.heap.size w w') := fun t w h => rsmall_any t w h
            have hgw : g < wr.heap.size := by omega
            have hn := ext_some wr
            have hca : ∀ (u : Ext wr), u.w.cell? ⟨g, o + 1, none⟩ = some (.string ⟨ta.toArray⟩) := fun u => (ext_cell wr u _ _ hgw).trans ((HB.out.cell (p := ⟨g, o + 1, none⟩) hgl).trans qa1)
            have hcc : ∀ (u : Ext wr), u.w.cell? ⟨g, o + 5, none⟩ = some (.string ⟨tc.toArray⟩) := fun u => (ext_cell wr u _ _ hgw).trans ((HB.out.cell (p := ⟨g, o + 5, none⟩) hgl).trans qc1)
            clear qa0 qa1 qb0 qb1 qc0 qc1 HE hat
            go_wp2_with fail
            refine wp_region_ext (by kernel_rfl) (by kernel_rfl) ?_
            repeat (go_big_quiet_step ((go_at_call 33; exact ext_call (HSa.out _ _ (by omega)))))
            refine wpQuiet_nil ?_
            rintro w5 ⟨⟨_, hb5⟩, rfl⟩
            go_wp2
            exact bodyPost_ret (v := .tuple #[.string ⟨(ta.map lowB).toArray⟩, .string ⟨(tc.map lowB).toArray⟩, .slice A ps.length cp8, .bool true]) (by simp [results, Tryz.results11, go_sem]) rfl (rtYes HV.out (hb1.out.trans ((HB.out.trans (hb5.mono hbs)).mono hBs)) ((HRp.out.below hb5).mono hBs))
      · have h4' : ¬ (N : Int) % 4 = 3 := by omega
        have h4b : ((N : Int) % 4 == 3) = false := by simpa using h4'
        have HNo : Hid (typeO l = none) := by
          show _ = _
          rw [HTY1.out, HWS.out, docT]
          split
          · cases hd : docP r with
            | none => rfl
            | some ps =>
              exfalso
              have e1 := docP_len hd
              have e2 := HN.out
              rw [HWS.out] at e2
              simp at e2
              omega
          · rfl
        go_wp2
        exact bodyPost_ret (v := .tuple #[.string ⟨#[]⟩, .string ⟨#[]⟩, .slice none 0 0, .bool false]) (by simp [results, Tryz.results11, go_sem]) rfl (rtNo HNo.out hb1.out)
end Go.Proofs.YtfebohfmpikoeaaGreatDoor
