/- MimeFinds. -/
import Derived.Test.YtkppeejbmalefaaGreatDoorU35
import Derived.Test.YtkppeejbmalefaaGreatDoorU36
import Derived.Test.YtkppeejbmalefaaGreatDoorU27
import Derived.Deep.Cut
set_option linter.unusedSimpArgs false
set_option linter.unusedVariables false
namespace Go.Proofs.YtkppeejbmalefaaGreatDoor
open Go.RowKit Go.Shelf
/-- A part that lies in block b, its rows elsewhere. -/
def PB (n : Nat) (w : World) (b : Nat) (q : Part) : Prop := ∃ B1 r1 B2 r2, Blk w b (phA q.h (.slice B1 q.h.params.length r1) (.slice B2 q.kids.length r2)) 28 ∧ PA n (fun g => g ≠ b) w (.agg (phA q.h (.slice B1 q.h.params.length r1) (.slice B2 q.kids.length r2))) q
theorem PB.keep {n b : Nat} {S : Nat → Prop} {w w' : World} {q : Part} (h : PB n w b q) (hm : Mvs S w w') (hs : ∀ g, g < w.heap.size → ¬ S g) : PB n w' b q := by
  obtain ⟨B1, r1, B2, r2, h1, h2⟩ := h
  exact ⟨B1, r1, B2, r2, hm.blk h1 (hs b h1.lt), ((h2.mono (S' := fun g => g ≠ b ∧ g < w.heap.size) (fun g hg hb => ⟨hb, hg⟩)).keep hm (fun g hg => hs g hg.2)).mono (fun g _ hg => hg.1)⟩
theorem PB.below {n b : Nat} {w w' : World} {q : Part} (h : PB n w b q) (hb : Below w.heap.size w w') : PB n w' b q := h.keep (S := fun _ => False) (Mvs.of_below hb) (fun _ _ c => c)
theorem PB.other {n b c : Nat} {w w' : World} {q : Part} (h : PB n w b q) (hm : Mvs (fun g => g = c) w w') (hc : w.heap.size ≤ c) : PB n w' b q := h.keep hm (fun g hg e => by omega)
theorem PB.lt {n b : Nat} {w : World} {q : Part} (h : PB n w b q) : b < w.heap.size := by
  obtain ⟨_, _, _, _, h1, _⟩ := h
  exact h1.lt
/-- The answer of Find, put into a block that was made for it. -/
theorem pb_put {n b : Nat} {w : World} {v1 v2 : Value} {q : Part} {Q : PH} {B1 B2 : Option Addr} {m1 r1 m2 r2 : Nat} (hk : Blk w b (phA zeroH v1 v2) 28) (hp : PA n (fun g => g ≠ b) w (.agg (phA Q (.slice B1 m1 r1) (.slice B2 m2 r2))) q) (h1 : q.h.params.length = m1) (h2 : q.kids.length = m2) (h3 : q.h = Q) :
    PB n (((((((((((w.setCell ⟨b, 0, none⟩ (.string ⟨Q.type.toArray⟩)).setCell ⟨b, 1, none⟩ (.string ⟨Q.sub.toArray⟩)).setCell ⟨b, 2, none⟩ (.slice B1 m1 r1)).setCell ⟨b, 3, none⟩ (.string ⟨Q.id.toArray⟩)).setCell ⟨b, 4, none⟩ (.string ⟨Q.desc.toArray⟩)).setCell ⟨b, 5, none⟩ (.string ⟨Q.enc.toArray⟩)).setCell ⟨b, 6, none⟩ (.int .i64 Q.at')).setCell ⟨b, 7, none⟩ (.int .i64 Q.body)).setCell ⟨b, 8, none⟩ (.int .i64 Q.end')).setCell ⟨b, 9, none⟩ (.int .i64 Q.lines)).setCell ⟨b, 10, none⟩ (.slice B2 m2 r2)) b q := by
  subst h1 h2 h3
  exact ⟨B1, r1, B2, r2, blk_set11 hk _ _ _ _ _ _ _ _ _ _ _, (hp.keep (Mvs11 w b _ _ _ _ _ _ _ _ _ _ _) (fun g hg e => hg e))⟩
theorem pb_zero (n b : Nat) {w : World} (hk : Blk w b #[.string ⟨#[]⟩, .string ⟨#[]⟩, .slice none 0 0, .string ⟨#[]⟩, .string ⟨#[]⟩, .string ⟨#[]⟩, .int .i64 0, .int .i64 0, .int .i64 0, .int .i64 0, .slice none 0 0] 28) : PB (n + 1) w b zeroP := ⟨none, 0, none, 0, hk, zero_pa _ _ _⟩
/-- What the region with Find leaves. -/
def FG (n : Nat) (r : Option Part) (w0 wq : World) (v5 v6 : Value) : Prop := ∃ b, v5 = .pointer (some ⟨b, 0, none⟩) ∧ v6 = .bool r.isSome ∧ w0.heap.size ≤ b ∧ PB (n + 1) wq b (r.getD zeroP) ∧ Below w0.heap.size w0 wq
theorem find_cnt : ∀ {path : List Int} {p q : Part}, CntC p → findP p path = some q → CntC q
  | [], p, q, hc, h => by
    have h' : some p = some q := by cases p; exact h
    cases h'
    exact hc
  | z :: r, p, q, hc, h => by
    rw [findP] at h
    split at h
    · cases h
    · split at h
      · rename_i k hk
        obtain ⟨hj, e⟩ := List.getElem?_eq_some_iff.1 hk
        exact find_cnt (e ▸ cnt_kid hc hj) h
      · cases h
theorem fnd_cnt {p : Part} {path : List Int} (hc : CntC p) : CntC ((fndP p path).getD zeroP) := by
  cases h : fndP p path with
  | none => exact .mk _ _ (by simp [zeroH]) (by simp) (fun k hk => by cases hk)
  | some q =>
    unfold fndP at h
    split at h
    · cases h
      exact hc
    · exact find_cnt hc h
theorem find_none {n : Nat} {p : Part} {path : List Int} (h : path = [1] → p.kids ≠ []) : fndP p path = findP p path := by
  unfold fndP
  rw [if_neg]
  rintro ⟨e1, e2⟩
  exact h e2 e1
set_option maxRecDepth 20000 in
set_option maxHeartbeats 8000000 in
theorem mimeFinds_walk (n : Nat) (p : Part) (v vp : Value) (path : List Int) (w : World) (hp : PA n (fun g => 0 ≤ g) w v p) (hcb : CntB p) (hcc : CntC p) (ha : AR w vp (path.map (Value.int .i64))) (ht : TabM w) (ea ef : Addr) (hE : EF w ea) (hF : EFm w ef) :
    Calls Tryz.prog 4 #[v, vp] w fun e w' => e = .returned (.bool true) ∧ Below w.heap.size w w' := by
  obtain ⟨A, cp, Ak, ck, rfl⟩ := hp.form
  have HAr := hide ha
  have HPr := hide (ar_ints ha)
  obtain ⟨AI, cI, rfl, hlc, hcx, _⟩ := ha
  rw [List.length_map] at hlc HAr HPr ⊢
  have hnx : path.length ≤ 9223372036854775807 := by simp only [maxLen] at hcx; omega
  obtain ⟨n1, hn1⟩ : ∃ m, p.h.params.length = m := ⟨_, rfl⟩
  obtain ⟨n2, hn2⟩ : ∃ m, p.kids.length = m := ⟨_, rfl⟩
  obtain ⟨H, hH⟩ : ∃ H, p.h = H := ⟨_, rfl⟩
  have HFr : Hid (p.h.params.length = n1 ∧ p.kids.length = n2 ∧ p.h = H) := ⟨hn1, hn2, hH⟩
  have hn2x : n2 ≤ 140737488355328 := by rw [← hn2]; exact cnt_len hcc
  rw [hn1, hn2, hH] at hp ⊢
  obtain ⟨np, hnp⟩ : ∃ np, path.length = np := ⟨_, rfl⟩
  have HNp := hide hnp
  rw [hnp] at hlc hnx HAr HPr ⊢
  have HPp := hide hp
  obtain ⟨rr, hrr⟩ : ∃ rr, fndP p path = rr := ⟨_, rfl⟩
  have HRr := hide hrr
  clear hrr
  have HCb := hide hcb
  have HCc := hide hcc
  have hA1 := (Below.refl w.heap.size w).alloc (Nat.le_refl _) (.cells (phA H (.slice A n1 cp) (.slice Ak n2 ck)) 28)
  have HK1 := hide (Blk.new w (phA H (.slice A n1 cp) (.slice Ak n2 ck)) 28)
  have HAl := hide (alive10 _ ea ef (hE.below hA1) (hF.below hA1) (ht.below hA1))
  have HA1 := hide hA1
  clear hp hcb hcc hn1 hn2 hH hnp hA1 hE hF ht
  unfold phA at HAl
  go_enter Tryz.func4, Tryz.ntmps4
  unfold phA
  go_wp2_with fail
  refine HAl.out.mono ?_
  rintro e w2 ⟨rfl, hb2⟩
  have HK2 := hide (HK1.out.below hb2 HK1.out.lt)
  have HB2 := hide (HA1.out.trans (hb2.mono HA1.out.size))
  have hs2 : w.heap.size < w2.heap.size := HK2.out.lt
  obtain ⟨c0, c1, c2, c3, c4, c5, c6, c7, c8, c9, c10⟩ := blk11 HK2.out
  have HBg := hide (big_any p _ w2 (HPp.out.below HB2.out) HCb.out)
  unfold phA at HBg
  clear hb2 HK1 HA1 HAl
  go_wp2_with fail
  refine HBg.out.mono ?_
  rintro e w3 ⟨t, rfl, hb3⟩
  have HK3 := hide (HK2.out.below hb3 HK2.out.lt)
  have HB3 := hide (HB2.out.trans (hb3.mono HB2.out.size))
  have hs3 : w.heap.size < w3.heap.size := HK3.out.lt
  clear hb3 HK2 HB2 HBg c0 c1 c2 c3 c4 c5 c6 c7 c8 c9 c10
  obtain ⟨c0, c1, c2, c3, c4, c5, c6, c7, c8, c9, c10⟩ := blk11 HK3.out
  cases t with
  | true =>
    go_wp2
    go_ret
    exact ⟨rfl, HB3.out⟩
  | false =>
    by_cases h200 : np ≤ 200
    · have h200' : ¬ ((np : Int) > 200) := by omega
      go_upto_region 5 with fail
      obtain ⟨D, hD⟩ : ∃ D, w.heap.size = D := ⟨_, rfl⟩
      rw [hD] at c0 c1 c2 c3 c4 c5 c6 c7 c8 c9 c10 HK3 hs3
      rw [hD]
      have HD := hide hD
      clear hD
      go_cut [5, 6] from 20 (fun v5 v6 wq => Hid (FG n rr w3 wq v5 v6))
      case first =>
        have HIn : Hid (∀ W, Below w3.heap.size w3 W → Calls Tryz.prog 11 #[.slice AI np cI] W fun e w' => ∃ u, e = .returned u ∧ ReadOf intF 1 w' u path ∧ Below W.heap.size W w') := fun W hb => ints_any _ path W (HAr.out.below (HB3.out.trans (hb.mono HB3.out.size))) (by rw [HNp.out]; omega)
        have HFd : Hid (∀ W u, Below w3.heap.size w3 W → ReadOf intF 1 W u path → Calls Tryz.prog 10 #[.agg (phA H (.slice A n1 cp) (.slice Ak n2 ck)), u] W (FdOut n (fndP p path) W)) := fun W u hb hu => find_any n p _ u path W (HPp.out.below (HB3.out.trans (hb.mono HB3.out.size))) HCc.out hu (by rw [HNp.out]; omega)
        unfold phA at HFd
        rw [HRr.out] at HFd
        have hTk : ∀ W, Blk W D (phA H (.slice A n1 cp) (.slice Ak n2 ck)) 28 → (W.cell? ⟨D, 0, none⟩ = some (.string ⟨H.type.toArray⟩) ∧ W.cell? ⟨D, 1, none⟩ = some (.string ⟨H.sub.toArray⟩) ∧ W.cell? ⟨D, 2, none⟩ = some (.slice A n1 cp) ∧ W.cell? ⟨D, 3, none⟩ = some (.string ⟨H.id.toArray⟩) ∧ W.cell? ⟨D, 4, none⟩ = some (.string ⟨H.desc.toArray⟩) ∧ W.cell? ⟨D, 5, none⟩ = some (.string ⟨H.enc.toArray⟩) ∧ W.cell? ⟨D, 6, none⟩ = some (.int .i64 H.at') ∧ W.cell? ⟨D, 7, none⟩ = some (.int .i64 H.body) ∧ W.cell? ⟨D, 8, none⟩ = some (.int .i64 H.end') ∧ W.cell? ⟨D, 9, none⟩ = some (.int .i64 H.lines) ∧ W.cell? ⟨D, 10, none⟩ = some (.slice Ak n2 ck)) := fun W h => blk11 h
        have HTk := hide hTk
        refine regionL 8 (fun W => W.cell? ⟨D, 0, none⟩ = some (.string ⟨H.type.toArray⟩) ∧ W.cell? ⟨D, 1, none⟩ = some (.string ⟨H.sub.toArray⟩) ∧ W.cell? ⟨D, 2, none⟩ = some (.slice A n1 cp) ∧ W.cell? ⟨D, 3, none⟩ = some (.string ⟨H.id.toArray⟩) ∧ W.cell? ⟨D, 4, none⟩ = some (.string ⟨H.desc.toArray⟩) ∧ W.cell? ⟨D, 5, none⟩ = some (.string ⟨H.enc.toArray⟩) ∧ W.cell? ⟨D, 6, none⟩ = some (.int .i64 H.at') ∧ W.cell? ⟨D, 7, none⟩ = some (.int .i64 H.body) ∧ W.cell? ⟨D, 8, none⟩ = some (.int .i64 H.end') ∧ W.cell? ⟨D, 9, none⟩ = some (.int .i64 H.lines) ∧ W.cell? ⟨D, 10, none⟩ = some (.slice Ak n2 ck)) (by kernel_rfl) ?_
        have HK3d : Hid (Blk w3.drew D (phA H (.slice A n1 cp) (.slice Ak n2 ck)) 28) := HK3.out.drewN 1
        have HT0 := HTk.out _ HK3d.out
        clear hTk c0 c1 c2 c3 c4 c5 c6 c7 c8 c9 c10
        refine takeL (i := 0) (v := (.agg #[.string ⟨H.type.toArray⟩, .string ⟨H.sub.toArray⟩, .slice A n1 cp, .string ⟨H.id.toArray⟩, .string ⟨H.desc.toArray⟩, .string ⟨H.enc.toArray⟩, .int .i64 H.at', .int .i64 H.body, .int .i64 H.end', .int .i64 H.lines, .slice Ak n2 ck])) rfl (by kernel_rfl) (by kernel_rfl) (by kernel_rfl) (by kernel_rfl) (by kernel_rfl) (fun _ _ _ h => h) HT0 (Or.inl ⟨by rfl, fun W hW => by obtain ⟨t0, t1, t2, t3, t4, t5, t6, t7, t8, t9, t10⟩ := hW; go_simp⟩) ?_
        simp only [Act.put, List.getElem_toArray, List.getElem_cons_succ, List.getElem_cons_zero, List.setIfInBounds_toArray, List.set_cons_zero, List.set_cons_succ]
        refine takeW (i := 1) (v := (.slice AI np cI)) rfl (by kernel_rfl) (by kernel_rfl) (by kernel_rfl) rfl (fun _ _ _ h => h) (fun _ => HT0) (Or.inl ⟨by rfl, fun W _ => by go_simp⟩) ?_
        simp only [Act.put, List.getElem_toArray, List.getElem_cons_succ, List.getElem_cons_zero, List.setIfInBounds_toArray, List.set_cons_zero, List.set_cons_succ]
        have HBd : Hid (Below w3.heap.size w3 w3.drew) := (Below.refl _ _).drew
        obtain ⟨w4, hw4⟩ : ∃ w4, w3.drew = w4 := ⟨_, rfl⟩
        rw [hw4] at HK3d HBd HT0
        rw [hw4]
        clear hw4
        refine readyL (rs := [2, 7]) (by kernel_rfl) (by simp) ?_
        refine AllL.cons rfl (fun K hK => ?_) (AllL.cons rfl (fun K hK => ?_) AllL.nil)
        · try simp only [List.getElem_toArray, List.getElem_cons_succ, List.getElem_cons_zero]
          go_simp
          refine (HIn.out w4 HBd.out).mono ?_
          rintro e w5 ⟨u, rfl, hu, hbi⟩
          have HU := hide hu
          obtain ⟨Au, cu, rfl, _⟩ := hu
          rw [HNp.out] at HU
          have HBw5 := hide (HBd.out.trans (hbi.mono HBd.out.size))
          have HKw5 := hide (HK3d.out.below hbi HK3d.out.lt)
          have HIw5 := hide hbi
          have HTx := HTk.out _ HKw5.out
          clear hbi
          refine hK.out _ _ (fun _ => HTx) (fun HTn => ?_)
          clear hK K
          try simp only [Act.put, List.getElem_toArray, List.getElem_cons_succ, List.getElem_cons_zero, List.setIfInBounds_toArray, List.set_cons_zero, List.set_cons_succ]
          clear HTx HTn
          rw [HNp.out]
          refine readyL (rs := [3, 7]) (by kernel_rfl) (by simp) ?_
          refine AllL.cons rfl (fun K hK => ?_) (AllL.cons rfl (fun K hK => ?_) AllL.nil)
          · try simp only [List.getElem_toArray, List.getElem_cons_succ, List.getElem_cons_zero]
            go_simp
            have HUw := HU
            refine (HFd.out w5 _ HBw5.out HUw.out).mono ?_
            intro e w6 ho
            obtain ⟨hbf, vf, rfl, hpa⟩ := ho
            have HBw6 := hide (HBw5.out.trans (hbf.mono HBw5.out.size))
            have HKw6 := hide (HKw5.out.below hbf HKw5.out.lt)
            have HIw6 := hide hbf
            obtain ⟨B1, r1, B2, r2, rfl⟩ := hpa.form
            obtain ⟨got, hgot⟩ : ∃ got, rr.getD zeroP = got := ⟨_, rfl⟩
            have HGot := hide hgot
            rw [hgot] at hpa
            rw [hgot]
            obtain ⟨m1, hm1⟩ : ∃ m, got.h.params.length = m := ⟨_, rfl⟩
            obtain ⟨m2, hm2⟩ : ∃ m, got.kids.length = m := ⟨_, rfl⟩
            obtain ⟨Q, hQ⟩ : ∃ Q, got.h = Q := ⟨_, rfl⟩
            have HMm : Hid (got.h.params.length = m1 ∧ got.kids.length = m2 ∧ got.h = Q) := ⟨hm1, hm2, hQ⟩
            rw [hm1, hm2, hQ] at hpa
            rw [hm1, hm2, hQ]
            have HPa := hide hpa
            have HTx := HTk.out _ HKw6.out
            clear hgot hm1 hm2 hQ hpa hbf
            unfold phA
            refine hK.out _ _ (fun _ => HTx) (fun HTn => ?_)
            clear hK K
            try simp only [Act.put, List.getElem_toArray, List.getElem_cons_succ, List.getElem_cons_zero, List.setIfInBounds_toArray, List.set_cons_zero, List.set_cons_succ]
            have HT0 := HTx
            clear HTx HTn
            refine takeW (i := 4) (v := (.tuple #[.agg #[.string ⟨Q.type.toArray⟩, .string ⟨Q.sub.toArray⟩, .slice B1 m1 r1, .string ⟨Q.id.toArray⟩, .string ⟨Q.desc.toArray⟩, .string ⟨Q.enc.toArray⟩, .int .i64 Q.at', .int .i64 Q.body, .int .i64 Q.end', .int .i64 Q.lines, .slice B2 m2 r2], .bool rr.isSome])) rfl (by kernel_rfl) (by kernel_rfl) (by kernel_rfl) rfl (fun _ _ _ h => h) (fun _ => HT0) (Or.inl ⟨by rfl, fun W _ => by go_simp⟩) ?_
            simp only [Act.put, List.getElem_toArray, List.getElem_cons_succ, List.getElem_cons_zero, List.setIfInBounds_toArray, List.set_cons_zero, List.set_cons_succ]
            refine takeW (i := 5) (v := (.agg #[.string ⟨Q.type.toArray⟩, .string ⟨Q.sub.toArray⟩, .slice B1 m1 r1, .string ⟨Q.id.toArray⟩, .string ⟨Q.desc.toArray⟩, .string ⟨Q.enc.toArray⟩, .int .i64 Q.at', .int .i64 Q.body, .int .i64 Q.end', .int .i64 Q.lines, .slice B2 m2 r2])) rfl (by kernel_rfl) (by kernel_rfl) (by kernel_rfl) rfl (fun _ _ _ h => h) (fun _ => HT0) (Or.inl ⟨by rfl, fun W _ => by go_simp⟩) ?_
            simp only [Act.put, List.getElem_toArray, List.getElem_cons_succ, List.getElem_cons_zero, List.setIfInBounds_toArray, List.set_cons_zero, List.set_cons_succ]
            refine takeW (i := 6) (v := (.bool rr.isSome)) rfl (by kernel_rfl) (by kernel_rfl) (by kernel_rfl) rfl (fun _ _ _ h => h) (fun _ => HT0) (Or.inl ⟨by rfl, fun W _ => by go_simp⟩) ?_
            simp only [Act.put, List.getElem_toArray, List.getElem_cons_succ, List.getElem_cons_zero, List.setIfInBounds_toArray, List.set_cons_zero, List.set_cons_succ]
            refine readyL (rs := [7]) (by kernel_rfl) (by simp) ?_
            refine AllL.cons rfl (fun K hK => ?_) AllL.nil
            try simp only [List.getElem_toArray, List.getElem_cons_succ, List.getElem_cons_zero]
            go_simp
            have HBw7 := hide (HBw6.out.alloc HBw6.out.size (.cells #[.string ⟨#[]⟩, .string ⟨#[]⟩, .slice none 0 0, .string ⟨#[]⟩, .string ⟨#[]⟩, .string ⟨#[]⟩, .int .i64 0, .int .i64 0, .int .i64 0, .int .i64 0, .slice none 0 0] 28))
            have HKw7 := hide (HKw6.out.alloc (.cells #[.string ⟨#[]⟩, .string ⟨#[]⟩, .slice none 0 0, .string ⟨#[]⟩, .string ⟨#[]⟩, .string ⟨#[]⟩, .int .i64 0, .int .i64 0, .int .i64 0, .int .i64 0, .slice none 0 0] 28))
            have HZw7 := hide (Blk.new w6 #[.string ⟨#[]⟩, .string ⟨#[]⟩, .slice none 0 0, .string ⟨#[]⟩, .string ⟨#[]⟩, .string ⟨#[]⟩, .int .i64 0, .int .i64 0, .int .i64 0, .int .i64 0, .slice none 0 0] 28)
            have HSw7 : Hid ((w6.alloc (.cells #[.string ⟨#[]⟩, .string ⟨#[]⟩, .slice none 0 0, .string ⟨#[]⟩, .string ⟨#[]⟩, .string ⟨#[]⟩, .int .i64 0, .int .i64 0, .int .i64 0, .int .i64 0, .slice none 0 0] 28)).heap.size = w6.heap.size + 1) := World.size_alloc _ _
            have HAw7 := hide ((Below.refl w6.heap.size w6).alloc (Nat.le_refl _) (.cells #[.string ⟨#[]⟩, .string ⟨#[]⟩, .slice none 0 0, .string ⟨#[]⟩, .string ⟨#[]⟩, .string ⟨#[]⟩, .int .i64 0, .int .i64 0, .int .i64 0, .int .i64 0, .slice none 0 0] 28))
            have HTx := HTk.out _ HKw7.out
            refine hK.out _ _ (fun _ => HTx) (fun HTn => ?_)
            clear hK K
            try simp only [Act.put, List.getElem_toArray, List.getElem_cons_succ, List.getElem_cons_zero, List.setIfInBounds_toArray, List.set_cons_zero, List.set_cons_succ]
            obtain ⟨b5, hb5⟩ : ∃ b5, w6.heap.size = b5 := ⟨_, rfl⟩
            obtain ⟨w7, hw7⟩ : ∃ x, w6.alloc (.cells #[.string ⟨#[]⟩, .string ⟨#[]⟩, .slice none 0 0, .string ⟨#[]⟩, .string ⟨#[]⟩, .string ⟨#[]⟩, .int .i64 0, .int .i64 0, .int .i64 0, .int .i64 0, .slice none 0 0] 28) = x := ⟨_, rfl⟩
            have hbl5 : w3.heap.size ≤ b5 := by rw [← hb5]; exact HBw6.out.size
            rw [hw7] at HBw7 HKw7 HZw7 HSw7 HAw7 HTx
            rw [hb5] at HZw7 HSw7
            have HE5 := hide hb5
            show anyL _ _ _ _ _ _ _ _ _ (w6.alloc (.cells #[.string ⟨#[]⟩, .string ⟨#[]⟩, .slice none 0 0, .string ⟨#[]⟩, .string ⟨#[]⟩, .string ⟨#[]⟩, .int .i64 0, .int .i64 0, .int .i64 0, .int .i64 0, .slice none 0 0] 28))
            rw [hw7]
            try rw [hb5]
            clear HTn hb5 hw7
            have hcz := HZw7.out.cell
            have hfz := HZw7.out.frozen
            have hlz := HZw7.out.lt
            refine readyL (rs := [8]) (by kernel_rfl) (by simp) ?_
            refine AllL.cons rfl (fun K hK => ?_) AllL.nil
            try simp only [List.getElem_toArray, List.getElem_cons_succ, List.getElem_cons_zero]
            go_simp
            refine hK.out _ _ (vac (by kernel_rfl)) (fun HTn => ?_)
            clear hK K
            try simp only [Act.put, List.getElem_toArray, List.getElem_cons_succ, List.getElem_cons_zero, List.setIfInBounds_toArray, List.set_cons_zero, List.set_cons_succ]
            refine readyL (rs := [9]) (by kernel_rfl) (by simp) ?_
            refine AllL.cons rfl (fun K hK => ?_) AllL.nil
            try simp only [List.getElem_toArray, List.getElem_cons_succ, List.getElem_cons_zero]
            go_simp
            refine hK.out _ _ (vac (by kernel_rfl)) (fun HTn => ?_)
            clear hK K
            try simp only [Act.put, List.getElem_toArray, List.getElem_cons_succ, List.getElem_cons_zero, List.setIfInBounds_toArray, List.set_cons_zero, List.set_cons_succ]
            refine doneL (by kernel_rfl) ?_ _
            have hfin : FG n rr w3 _ (.pointer (some ⟨b5, 0, none⟩)) (.bool rr.isSome) := ⟨b5, rfl, rfl, hbl5, by rw [HGot.out]; exact pb_put (v1 := .slice none 0 0) (v2 := .slice none 0 0) HZw7.out (((HPa.out.mono (S' := fun g => g ≠ b5) (fun g hg _ e => by have := HE5.out; omega))).below HAw7.out) HMm.out.1 HMm.out.2.1 HMm.out.2.2, below_mvs HBw7.out (Mvs11 w7 b5 (.string ⟨Q.type.toArray⟩) (.string ⟨Q.sub.toArray⟩) (.slice B1 m1 r1) (.string ⟨Q.id.toArray⟩) (.string ⟨Q.desc.toArray⟩) (.string ⟨Q.enc.toArray⟩) (.int .i64 Q.at') (.int .i64 Q.body) (.int .i64 Q.end') (.int .i64 Q.lines) (.slice B2 m2 r2)) (fun k hk e => by omega) (Nat.le_refl _)⟩
            have HFin := hide hfin
            clear hfin hcz hfz hlz
            go_wp2
            go_meet
            case rel => exact HFin
          · try simp only [List.getElem_toArray, List.getElem_cons_succ, List.getElem_cons_zero]
            go_simp
            have HBw6 := hide (HBw5.out.alloc HBw5.out.size (.cells #[.string ⟨#[]⟩, .string ⟨#[]⟩, .slice none 0 0, .string ⟨#[]⟩, .string ⟨#[]⟩, .string ⟨#[]⟩, .int .i64 0, .int .i64 0, .int .i64 0, .int .i64 0, .slice none 0 0] 28))
            have HKw6 := hide (HKw5.out.alloc (.cells #[.string ⟨#[]⟩, .string ⟨#[]⟩, .slice none 0 0, .string ⟨#[]⟩, .string ⟨#[]⟩, .string ⟨#[]⟩, .int .i64 0, .int .i64 0, .int .i64 0, .int .i64 0, .slice none 0 0] 28))
            have HZw6 := hide (Blk.new w5 #[.string ⟨#[]⟩, .string ⟨#[]⟩, .slice none 0 0, .string ⟨#[]⟩, .string ⟨#[]⟩, .string ⟨#[]⟩, .int .i64 0, .int .i64 0, .int .i64 0, .int .i64 0, .slice none 0 0] 28)
            have HSw6 : Hid ((w5.alloc (.cells #[.string ⟨#[]⟩, .string ⟨#[]⟩, .slice none 0 0, .string ⟨#[]⟩, .string ⟨#[]⟩, .string ⟨#[]⟩, .int .i64 0, .int .i64 0, .int .i64 0, .int .i64 0, .slice none 0 0] 28)).heap.size = w5.heap.size + 1) := World.size_alloc _ _
            have HAw6 := hide ((Below.refl w5.heap.size w5).alloc (Nat.le_refl _) (.cells #[.string ⟨#[]⟩, .string ⟨#[]⟩, .slice none 0 0, .string ⟨#[]⟩, .string ⟨#[]⟩, .string ⟨#[]⟩, .int .i64 0, .int .i64 0, .int .i64 0, .int .i64 0, .slice none 0 0] 28))
            have HTx := HTk.out _ HKw6.out
            refine hK.out _ _ (fun _ => HTx) (fun HTn => ?_)
            clear hK K
            try simp only [Act.put, List.getElem_toArray, List.getElem_cons_succ, List.getElem_cons_zero, List.setIfInBounds_toArray, List.set_cons_zero, List.set_cons_succ]
            obtain ⟨b5, hb5⟩ : ∃ b5, w5.heap.size = b5 := ⟨_, rfl⟩
            obtain ⟨w6, hw6⟩ : ∃ x, w5.alloc (.cells #[.string ⟨#[]⟩, .string ⟨#[]⟩, .slice none 0 0, .string ⟨#[]⟩, .string ⟨#[]⟩, .string ⟨#[]⟩, .int .i64 0, .int .i64 0, .int .i64 0, .int .i64 0, .slice none 0 0] 28) = x := ⟨_, rfl⟩
            have hbl5 : w3.heap.size ≤ b5 := by rw [← hb5]; exact HBw5.out.size
            rw [hw6] at HBw6 HKw6 HZw6 HSw6 HAw6 HTx
            rw [hb5] at HZw6 HSw6
            have HE5 := hide hb5
            show anyL _ _ _ _ _ _ _ _ _ (w5.alloc (.cells #[.string ⟨#[]⟩, .string ⟨#[]⟩, .slice none 0 0, .string ⟨#[]⟩, .string ⟨#[]⟩, .string ⟨#[]⟩, .int .i64 0, .int .i64 0, .int .i64 0, .int .i64 0, .slice none 0 0] 28))
            rw [hw6]
            try rw [hb5]
            clear HTn hb5 hw6
            refine readyL (rs := [3]) (by kernel_rfl) (by simp) ?_
            refine AllL.cons rfl (fun K hK => ?_) AllL.nil
            try simp only [List.getElem_toArray, List.getElem_cons_succ, List.getElem_cons_zero]
            go_simp
            have HUw := hide (HU.out.below HAw6.out)
            refine (HFd.out w6 _ HBw6.out HUw.out).mono ?_
            intro e w7 ho
            obtain ⟨hbf, vf, rfl, hpa⟩ := ho
            have HBw7 := hide (HBw6.out.trans (hbf.mono HBw6.out.size))
            have HKw7 := hide (HKw6.out.below hbf HKw6.out.lt)
            have HIw7 := hide hbf
            obtain ⟨B1, r1, B2, r2, rfl⟩ := hpa.form
            obtain ⟨got, hgot⟩ : ∃ got, rr.getD zeroP = got := ⟨_, rfl⟩
            have HGot := hide hgot
            rw [hgot] at hpa
            rw [hgot]
            obtain ⟨m1, hm1⟩ : ∃ m, got.h.params.length = m := ⟨_, rfl⟩
            obtain ⟨m2, hm2⟩ : ∃ m, got.kids.length = m := ⟨_, rfl⟩
            obtain ⟨Q, hQ⟩ : ∃ Q, got.h = Q := ⟨_, rfl⟩
            have HMm : Hid (got.h.params.length = m1 ∧ got.kids.length = m2 ∧ got.h = Q) := ⟨hm1, hm2, hQ⟩
            rw [hm1, hm2, hQ] at hpa
            rw [hm1, hm2, hQ]
            have HPa := hide hpa
            have HTx := HTk.out _ HKw7.out
            clear hgot hm1 hm2 hQ hpa hbf
            unfold phA
            refine hK.out _ _ (fun _ => HTx) (fun HTn => ?_)
            clear hK K
            try simp only [Act.put, List.getElem_toArray, List.getElem_cons_succ, List.getElem_cons_zero, List.setIfInBounds_toArray, List.set_cons_zero, List.set_cons_succ]
            have HT0 := HTx
            clear HTx HTn
            refine takeW (i := 4) (v := (.tuple #[.agg #[.string ⟨Q.type.toArray⟩, .string ⟨Q.sub.toArray⟩, .slice B1 m1 r1, .string ⟨Q.id.toArray⟩, .string ⟨Q.desc.toArray⟩, .string ⟨Q.enc.toArray⟩, .int .i64 Q.at', .int .i64 Q.body, .int .i64 Q.end', .int .i64 Q.lines, .slice B2 m2 r2], .bool rr.isSome])) rfl (by kernel_rfl) (by kernel_rfl) (by kernel_rfl) rfl (fun _ _ _ h => h) (fun _ => HT0) (Or.inl ⟨by rfl, fun W _ => by go_simp⟩) ?_
            simp only [Act.put, List.getElem_toArray, List.getElem_cons_succ, List.getElem_cons_zero, List.setIfInBounds_toArray, List.set_cons_zero, List.set_cons_succ]
            refine takeW (i := 5) (v := (.agg #[.string ⟨Q.type.toArray⟩, .string ⟨Q.sub.toArray⟩, .slice B1 m1 r1, .string ⟨Q.id.toArray⟩, .string ⟨Q.desc.toArray⟩, .string ⟨Q.enc.toArray⟩, .int .i64 Q.at', .int .i64 Q.body, .int .i64 Q.end', .int .i64 Q.lines, .slice B2 m2 r2])) rfl (by kernel_rfl) (by kernel_rfl) (by kernel_rfl) rfl (fun _ _ _ h => h) (fun _ => HT0) (Or.inl ⟨by rfl, fun W _ => by go_simp⟩) ?_
            simp only [Act.put, List.getElem_toArray, List.getElem_cons_succ, List.getElem_cons_zero, List.setIfInBounds_toArray, List.set_cons_zero, List.set_cons_succ]
            refine takeW (i := 6) (v := (.bool rr.isSome)) rfl (by kernel_rfl) (by kernel_rfl) (by kernel_rfl) rfl (fun _ _ _ h => h) (fun _ => HT0) (Or.inl ⟨by rfl, fun W _ => by go_simp⟩) ?_
            simp only [Act.put, List.getElem_toArray, List.getElem_cons_succ, List.getElem_cons_zero, List.setIfInBounds_toArray, List.set_cons_zero, List.set_cons_succ]
            have HZ7 := hide (HZw6.out.below HIw7.out HZw6.out.lt)
            have hcz := HZ7.out.cell
            have hfz := HZ7.out.frozen
            have hlz := HZ7.out.lt
            refine readyL (rs := [8]) (by kernel_rfl) (by simp) ?_
            refine AllL.cons rfl (fun K hK => ?_) AllL.nil
            try simp only [List.getElem_toArray, List.getElem_cons_succ, List.getElem_cons_zero]
            go_simp
            refine hK.out _ _ (vac (by kernel_rfl)) (fun HTn => ?_)
            clear hK K
            try simp only [Act.put, List.getElem_toArray, List.getElem_cons_succ, List.getElem_cons_zero, List.setIfInBounds_toArray, List.set_cons_zero, List.set_cons_succ]
            refine readyL (rs := [9]) (by kernel_rfl) (by simp) ?_
            refine AllL.cons rfl (fun K hK => ?_) AllL.nil
            try simp only [List.getElem_toArray, List.getElem_cons_succ, List.getElem_cons_zero]
            go_simp
            refine hK.out _ _ (vac (by kernel_rfl)) (fun HTn => ?_)
            clear hK K
            try simp only [Act.put, List.getElem_toArray, List.getElem_cons_succ, List.getElem_cons_zero, List.setIfInBounds_toArray, List.set_cons_zero, List.set_cons_succ]
            refine doneL (by kernel_rfl) ?_ _
            have hfin : FG n rr w3 _ (.pointer (some ⟨b5, 0, none⟩)) (.bool rr.isSome) := ⟨b5, rfl, rfl, hbl5, by rw [HGot.out]; exact pb_put (v1 := .slice none 0 0) (v2 := .slice none 0 0) HZ7.out (HPa.out.mono (S' := fun g => g ≠ b5) (fun g _ hg e => by have := HSw6.out; omega)) HMm.out.1 HMm.out.2.1 HMm.out.2.2, below_mvs HBw7.out (Mvs11 w7 b5 (.string ⟨Q.type.toArray⟩) (.string ⟨Q.sub.toArray⟩) (.slice B1 m1 r1) (.string ⟨Q.id.toArray⟩) (.string ⟨Q.desc.toArray⟩) (.string ⟨Q.enc.toArray⟩) (.int .i64 Q.at') (.int .i64 Q.body) (.int .i64 Q.end') (.int .i64 Q.lines) (.slice B2 m2 r2)) (fun k hk e => by omega) (Nat.le_refl _)⟩
            have HFin := hide hfin
            clear hfin hcz hfz hlz
            go_wp2
            go_meet
            case rel => exact HFin
        · try simp only [List.getElem_toArray, List.getElem_cons_succ, List.getElem_cons_zero]
          go_simp
          have HBw5 := hide (HBd.out.alloc HBd.out.size (.cells #[.string ⟨#[]⟩, .string ⟨#[]⟩, .slice none 0 0, .string ⟨#[]⟩, .string ⟨#[]⟩, .string ⟨#[]⟩, .int .i64 0, .int .i64 0, .int .i64 0, .int .i64 0, .slice none 0 0] 28))
          have HKw5 := hide (HK3d.out.alloc (.cells #[.string ⟨#[]⟩, .string ⟨#[]⟩, .slice none 0 0, .string ⟨#[]⟩, .string ⟨#[]⟩, .string ⟨#[]⟩, .int .i64 0, .int .i64 0, .int .i64 0, .int .i64 0, .slice none 0 0] 28))
          have HZw5 := hide (Blk.new w4 #[.string ⟨#[]⟩, .string ⟨#[]⟩, .slice none 0 0, .string ⟨#[]⟩, .string ⟨#[]⟩, .string ⟨#[]⟩, .int .i64 0, .int .i64 0, .int .i64 0, .int .i64 0, .slice none 0 0] 28)
          have HSw5 : Hid ((w4.alloc (.cells #[.string ⟨#[]⟩, .string ⟨#[]⟩, .slice none 0 0, .string ⟨#[]⟩, .string ⟨#[]⟩, .string ⟨#[]⟩, .int .i64 0, .int .i64 0, .int .i64 0, .int .i64 0, .slice none 0 0] 28)).heap.size = w4.heap.size + 1) := World.size_alloc _ _
          have HAw5 := hide ((Below.refl w4.heap.size w4).alloc (Nat.le_refl _) (.cells #[.string ⟨#[]⟩, .string ⟨#[]⟩, .slice none 0 0, .string ⟨#[]⟩, .string ⟨#[]⟩, .string ⟨#[]⟩, .int .i64 0, .int .i64 0, .int .i64 0, .int .i64 0, .slice none 0 0] 28))
          have HTx := HTk.out _ HKw5.out
          refine hK.out _ _ (fun _ => HTx) (fun HTn => ?_)
          clear hK K
          try simp only [Act.put, List.getElem_toArray, List.getElem_cons_succ, List.getElem_cons_zero, List.setIfInBounds_toArray, List.set_cons_zero, List.set_cons_succ]
          obtain ⟨b5, hb5⟩ : ∃ b5, w4.heap.size = b5 := ⟨_, rfl⟩
          obtain ⟨w5, hw5⟩ : ∃ x, w4.alloc (.cells #[.string ⟨#[]⟩, .string ⟨#[]⟩, .slice none 0 0, .string ⟨#[]⟩, .string ⟨#[]⟩, .string ⟨#[]⟩, .int .i64 0, .int .i64 0, .int .i64 0, .int .i64 0, .slice none 0 0] 28) = x := ⟨_, rfl⟩
          have hbl5 : w3.heap.size ≤ b5 := by rw [← hb5]; exact HBd.out.size
          rw [hw5] at HBw5 HKw5 HZw5 HSw5 HAw5 HTx
          rw [hb5] at HZw5 HSw5
          have HE5 := hide hb5
          show anyL _ _ _ _ _ _ _ _ _ (w4.alloc (.cells #[.string ⟨#[]⟩, .string ⟨#[]⟩, .slice none 0 0, .string ⟨#[]⟩, .string ⟨#[]⟩, .string ⟨#[]⟩, .int .i64 0, .int .i64 0, .int .i64 0, .int .i64 0, .slice none 0 0] 28))
          rw [hw5]
          try rw [hb5]
          clear HTn hb5 hw5
          refine readyL (rs := [2]) (by kernel_rfl) (by simp) ?_
          refine AllL.cons rfl (fun K hK => ?_) AllL.nil
          try simp only [List.getElem_toArray, List.getElem_cons_succ, List.getElem_cons_zero]
          go_simp
          refine (HIn.out w5 HBw5.out).mono ?_
          rintro e w6 ⟨u, rfl, hu, hbi⟩
          have HU := hide hu
          obtain ⟨Au, cu, rfl, _⟩ := hu
          rw [HNp.out] at HU
          have HBw6 := hide (HBw5.out.trans (hbi.mono HBw5.out.size))
          have HKw6 := hide (HKw5.out.below hbi HKw5.out.lt)
          have HIw6 := hide hbi
          have HTx := HTk.out _ HKw6.out
          clear hbi
          refine hK.out _ _ (fun _ => HTx) (fun HTn => ?_)
          clear hK K
          try simp only [Act.put, List.getElem_toArray, List.getElem_cons_succ, List.getElem_cons_zero, List.setIfInBounds_toArray, List.set_cons_zero, List.set_cons_succ]
          clear HTx HTn
          rw [HNp.out]
          refine readyL (rs := [3]) (by kernel_rfl) (by simp) ?_
          refine AllL.cons rfl (fun K hK => ?_) AllL.nil
          try simp only [List.getElem_toArray, List.getElem_cons_succ, List.getElem_cons_zero]
          go_simp
          have HUw := HU
          refine (HFd.out w6 _ HBw6.out HUw.out).mono ?_
          intro e w7 ho
          obtain ⟨hbf, vf, rfl, hpa⟩ := ho
          have HBw7 := hide (HBw6.out.trans (hbf.mono HBw6.out.size))
          have HKw7 := hide (HKw6.out.below hbf HKw6.out.lt)
          have HIw7 := hide hbf
          obtain ⟨B1, r1, B2, r2, rfl⟩ := hpa.form
          obtain ⟨got, hgot⟩ : ∃ got, rr.getD zeroP = got := ⟨_, rfl⟩
          have HGot := hide hgot
          rw [hgot] at hpa
          rw [hgot]
          obtain ⟨m1, hm1⟩ : ∃ m, got.h.params.length = m := ⟨_, rfl⟩
          obtain ⟨m2, hm2⟩ : ∃ m, got.kids.length = m := ⟨_, rfl⟩
          obtain ⟨Q, hQ⟩ : ∃ Q, got.h = Q := ⟨_, rfl⟩
          have HMm : Hid (got.h.params.length = m1 ∧ got.kids.length = m2 ∧ got.h = Q) := ⟨hm1, hm2, hQ⟩
          rw [hm1, hm2, hQ] at hpa
          rw [hm1, hm2, hQ]
          have HPa := hide hpa
          have HTx := HTk.out _ HKw7.out
          clear hgot hm1 hm2 hQ hpa hbf
          unfold phA
          refine hK.out _ _ (fun _ => HTx) (fun HTn => ?_)
          clear hK K
          try simp only [Act.put, List.getElem_toArray, List.getElem_cons_succ, List.getElem_cons_zero, List.setIfInBounds_toArray, List.set_cons_zero, List.set_cons_succ]
          have HT0 := HTx
          clear HTx HTn
          refine takeW (i := 4) (v := (.tuple #[.agg #[.string ⟨Q.type.toArray⟩, .string ⟨Q.sub.toArray⟩, .slice B1 m1 r1, .string ⟨Q.id.toArray⟩, .string ⟨Q.desc.toArray⟩, .string ⟨Q.enc.toArray⟩, .int .i64 Q.at', .int .i64 Q.body, .int .i64 Q.end', .int .i64 Q.lines, .slice B2 m2 r2], .bool rr.isSome])) rfl (by kernel_rfl) (by kernel_rfl) (by kernel_rfl) rfl (fun _ _ _ h => h) (fun _ => HT0) (Or.inl ⟨by rfl, fun W _ => by go_simp⟩) ?_
          simp only [Act.put, List.getElem_toArray, List.getElem_cons_succ, List.getElem_cons_zero, List.setIfInBounds_toArray, List.set_cons_zero, List.set_cons_succ]
          refine takeW (i := 5) (v := (.agg #[.string ⟨Q.type.toArray⟩, .string ⟨Q.sub.toArray⟩, .slice B1 m1 r1, .string ⟨Q.id.toArray⟩, .string ⟨Q.desc.toArray⟩, .string ⟨Q.enc.toArray⟩, .int .i64 Q.at', .int .i64 Q.body, .int .i64 Q.end', .int .i64 Q.lines, .slice B2 m2 r2])) rfl (by kernel_rfl) (by kernel_rfl) (by kernel_rfl) rfl (fun _ _ _ h => h) (fun _ => HT0) (Or.inl ⟨by rfl, fun W _ => by go_simp⟩) ?_
          simp only [Act.put, List.getElem_toArray, List.getElem_cons_succ, List.getElem_cons_zero, List.setIfInBounds_toArray, List.set_cons_zero, List.set_cons_succ]
          refine takeW (i := 6) (v := (.bool rr.isSome)) rfl (by kernel_rfl) (by kernel_rfl) (by kernel_rfl) rfl (fun _ _ _ h => h) (fun _ => HT0) (Or.inl ⟨by rfl, fun W _ => by go_simp⟩) ?_
          simp only [Act.put, List.getElem_toArray, List.getElem_cons_succ, List.getElem_cons_zero, List.setIfInBounds_toArray, List.set_cons_zero, List.set_cons_succ]
          have HZ7 := hide ((HZw5.out.below HIw6.out HZw5.out.lt).below HIw7.out (HZw5.out.below HIw6.out HZw5.out.lt).lt)
          have hcz := HZ7.out.cell
          have hfz := HZ7.out.frozen
          have hlz := HZ7.out.lt
          refine readyL (rs := [8]) (by kernel_rfl) (by simp) ?_
          refine AllL.cons rfl (fun K hK => ?_) AllL.nil
          try simp only [List.getElem_toArray, List.getElem_cons_succ, List.getElem_cons_zero]
          go_simp
          refine hK.out _ _ (vac (by kernel_rfl)) (fun HTn => ?_)
          clear hK K
          try simp only [Act.put, List.getElem_toArray, List.getElem_cons_succ, List.getElem_cons_zero, List.setIfInBounds_toArray, List.set_cons_zero, List.set_cons_succ]
          refine readyL (rs := [9]) (by kernel_rfl) (by simp) ?_
          refine AllL.cons rfl (fun K hK => ?_) AllL.nil
          try simp only [List.getElem_toArray, List.getElem_cons_succ, List.getElem_cons_zero]
          go_simp
          refine hK.out _ _ (vac (by kernel_rfl)) (fun HTn => ?_)
          clear hK K
          try simp only [Act.put, List.getElem_toArray, List.getElem_cons_succ, List.getElem_cons_zero, List.setIfInBounds_toArray, List.set_cons_zero, List.set_cons_succ]
          refine doneL (by kernel_rfl) ?_ _
          have hfin : FG n rr w3 _ (.pointer (some ⟨b5, 0, none⟩)) (.bool rr.isSome) := ⟨b5, rfl, rfl, hbl5, by rw [HGot.out]; exact pb_put (v1 := .slice none 0 0) (v2 := .slice none 0 0) HZ7.out (HPa.out.mono (S' := fun g => g ≠ b5) (fun g _ hg e => by have := HSw5.out; have := HIw6.out.size; omega)) HMm.out.1 HMm.out.2.1 HMm.out.2.2, below_mvs HBw7.out (Mvs11 w7 b5 (.string ⟨Q.type.toArray⟩) (.string ⟨Q.sub.toArray⟩) (.slice B1 m1 r1) (.string ⟨Q.id.toArray⟩) (.string ⟨Q.desc.toArray⟩) (.string ⟨Q.enc.toArray⟩) (.int .i64 Q.at') (.int .i64 Q.body) (.int .i64 Q.end') (.int .i64 Q.lines) (.slice B2 m2 r2)) (fun k hk e => by omega) (Nat.le_refl _)⟩
          have HFin := hide hfin
          clear hfin hcz hfz hlz
          go_wp2
          go_meet
          case rel => exact HFin
      case rest =>
        obtain ⟨b5, rfl, rfl, hb5, hpb, hbw⟩ := hcut.out
        have HPb := hide hpb
        have HBc := hide hbw
        have HK4 := hide (HK3.out.below hbw HK3.out.lt)
        have hsc := hbw.size
        have hb5l := hpb.lt
        clear hcut hpb hbw c0 c1 c2 c3 c4 c5 c6 c7 c8 c9 c10
        obtain ⟨c0, c1, c2, c3, c4, c5, c6, c7, c8, c9, c10⟩ := blk11 HK4.out
        have HK7 := hide (Blk.new wc (phA H (.slice A n1 cp) (.slice Ak n2 ck)) 28)
        have HA7 := hide ((Below.refl wc.heap.size wc).alloc (Nat.le_refl _) (.cells (phA H (.slice A n1 cp) (.slice Ak n2 ck)) 28))
        unfold phA at HK7 HA7
        obtain ⟨lf, hlf⟩ : ∃ lf : Bool, decide (n2 = 0 ∧ path = [1]) = lf := ⟨_, rfl⟩
        have HLf := hide hlf
        clear hlf
        go_upto_region 7 with fail
        obtain ⟨b7, hb7⟩ : ∃ b7, wc.heap.size = b7 := ⟨_, rfl⟩
        obtain ⟨W5, hW5⟩ : ∃ W5, wc.alloc (.cells #[.string ⟨H.type.toArray⟩, .string ⟨H.sub.toArray⟩, .slice A n1 cp, .string ⟨H.id.toArray⟩, .string ⟨H.desc.toArray⟩, .string ⟨H.enc.toArray⟩, .int .i64 H.at', .int .i64 H.body, .int .i64 H.end', .int .i64 H.lines, .slice Ak n2 ck] 28) = W5 := ⟨_, rfl⟩
        rw [hb7, hW5] at HK7
        rw [hW5, hb7] at HA7
        rw [hb7, hW5]
        have HA7' : Hid (Below wc.heap.size wc W5) := by rw [hb7]; exact HA7.out
        have hwD : w.heap.size ≤ wc.heap.size := by have := HD.out; omega
        have HKD := hide (HK4.out.below HA7'.out HK4.out.lt)
        have HPo : Hid (∀ w', Mvs (fun g => g = b7) W5 w' → PB (n + 1) w' b5 (rr.getD zeroP)) := fun w' hm => HPb.out.other ((Mvs.of_below HA7'.out).trans hm) (by omega)
        have HB5 := hide (HB3.out.trans ((HBc.out.trans (HA7'.out.mono hsc)).mono HB3.out.size))
        have hb7w : w.heap.size ≤ b7 := by omega
        have hb57 : b5 < b7 := by omega
        have HDb : Hid (D < b7) := by show D < b7; have := HK4.out.lt; omega
        have HS5 : Hid (b7 < W5.heap.size) := HK7.out.lt
        clear hW5 HA7 HA7' HK4 HPb HBc c0 c1 c2 c3 c4 c5 c6 c7 c8 c9 c10
        clear hb7
        go_cut [42] from 28 (fun v42 wq => W5 = wq ∧ v42 = .bool (!lf))
        case first =>
          obtain ⟨d0, d1, d2, d3, d4, d5, d6, d7, d8, d9, d10⟩ := blk11 HKD.out
          clear d0 d1 d2 d3 d4 d5 d6 d7 d8 d9
          by_cases h2 : n2 = 0
          · by_cases h3 : np = 1
            · obtain ⟨z, hz⟩ : ∃ z, path = [z] := by
                have := HNp.out
                rw [h3] at this
                match path, this with
                | [z], _ => exact ⟨z, rfl⟩
              obtain ⟨AI', cI', e, hI⟩ := HPr.out
              rw [HNp.out] at e
              cases e
              obtain ⟨g, o, rfl, hg, hc1⟩ := hI 0 (by rw [hz]; simp)
              have ci : W5.cell? ⟨g, o, none⟩ = some (.int .i64 z) := by
                have h9 := hc1 0 (by omega)
                have h8 := (HB5.out.cell (p := ⟨g, o, none⟩) hg).trans (by simpa using h9)
                rw [h8]
                subst hz
                rfl
              by_cases hz1 : z = 1
              · have HL2 : Hid (lf = true) := by show _ = _; rw [← HLf.out, decide_eq_true_eq]; exact ⟨h2, by rw [hz, hz1]⟩
                subst hz1
                subst h2
                subst h3
                clear hc1 hI hz
                go_wp2
                go_meet
                case rel => exact ⟨rfl, by rw [HL2.out]; rfl⟩
              · have HL2 : Hid (lf = false) := by show _ = _; rw [← HLf.out, decide_eq_false_iff_not, hz]; rintro ⟨_, e⟩; exact hz1 (by simpa using e)
                have hzb : (z == 1) = false := by rw [beq_eq_false_iff_ne]; exact hz1
                subst h2
                subst h3
                clear hc1 hI hz hz1
                go_wp2
                go_meet
                case rel => exact ⟨rfl, by rw [HL2.out]; simp [bne, hzb]⟩
            · have HL2 : Hid (lf = false) := by show _ = _; rw [← HLf.out, decide_eq_false_iff_not]; rintro ⟨_, e⟩; exact h3 (by rw [← HNp.out, e]; rfl)
              have h3' : ¬ ((np : Int) = 1) := by omega
              subst h2
              go_wp2
              go_meet
              case rel => exact ⟨rfl, by rw [HL2.out]; rfl⟩
          · have HL2 : Hid (lf = false) := by show _ = _; rw [← HLf.out, decide_eq_false_iff_not]; rintro ⟨e, _⟩; exact h2 e
            have h2' : ((n2 : Int) > 0) := by omega
            go_wp2
            go_meet
            case rel => exact ⟨rfl, by rw [HL2.out]; rfl⟩
        case rest =>
         obtain ⟨rfl, rfl⟩ := hcut
         go_upto_if 42 with fail
         go_cut [8] from 42 (fun v8 wq => Hid (v8 = .bool rr.isSome ∧ PB (n + 1) wq b7 (rr.getD zeroP) ∧ Mvs (fun g => g = b7) W5 wq))
         case first =>
          cases lf with
          | true =>
            obtain ⟨h0, hpa⟩ := of_decide_eq_true HLf.out
            have HFq : Hid (rr = some p) := by
              show _ = _
              rw [← HRr.out]
              unfold fndP
              rw [if_pos ⟨List.length_eq_zero_iff.1 (HFr.out.2.1.trans h0), hpa⟩]
            have HP7 : Hid (PB (n + 1) W5 b7 p) := by
              refine ⟨A, cp, Ak, ck, ?_, ?_⟩
              · rw [HFr.out.1, HFr.out.2.1, HFr.out.2.2]
                exact HK7.out
              · rw [HFr.out.1, HFr.out.2.1, HFr.out.2.2]
                exact (((HPp.out.mono (S' := fun g => g < w.heap.size) (fun g hg _ => hg)).below HB5.out).mono (fun g _ hg => by omega)).succ
            clear h0 hpa
            go_wp2
            go_meet
            case rel => exact ⟨by rw [HFq.out]; rfl, by rw [HFq.out]; exact HP7.out, Mvs.refl _ _⟩
          | false =>
              have h1 := of_decide_eq_false HLf.out
              have HF0 : Hid (findP p (path.drop 0) = rr) := by
                show _ = _
                rw [← HRr.out, find_none (n := n) (fun e hk => h1 ⟨by rw [← HFr.out.2.1, hk]; rfl, e⟩), List.drop_zero]
              have HPq := hide (HPp.out.mono (S' := fun g => g < w.heap.size) (fun g hg _ => hg))
              clear h1
              go_wp2
              go_loopw [8, 45] (fun v8 v45 wx => ∃ k : Nat, v45 = .int .i64 k ∧ k ≤ np ∧ ((∃ (q : Part) (Q : PH) (B1 B2 : Option Addr) (m1 r1 m2 r2 : Nat), v8 = .bool true ∧ Hid (findP q (path.drop k) = rr) ∧ Hid (PA n (fun g => g < w.heap.size) w (.agg (phA Q (.slice B1 m1 r1) (.slice B2 m2 r2))) q) ∧ Hid (q.h.params.length = m1 ∧ q.kids.length = m2 ∧ q.h = Q) ∧ Hid (CntC q) ∧ Hid (Blk wx b7 (phA Q (.slice B1 m1 r1) (.slice B2 m2 r2)) 28)) ∨ (v8 = .bool false ∧ Hid (rr = none) ∧ Hid (Blk wx b7 #[.string ⟨#[]⟩, .string ⟨#[]⟩, .slice none 0 0, .string ⟨#[]⟩, .string ⟨#[]⟩, .string ⟨#[]⟩, .int .i64 0, .int .i64 0, .int .i64 0, .int .i64 0, .slice none 0 0] 28))) ∧ Hid (Mvs (fun g => g = b7) W5 wx)) (fun _ v45 _ => np - (intOf v45).toNat)
              case atStart => exact ⟨0, rfl, Nat.zero_le _, .inl ⟨p, H, A, Ak, n1, cp, n2, ck, rfl, HF0, HPq, HFr, HCc, HK7⟩, Mvs.refl _ _⟩
              case round =>
                clear HF0 HPq HFr HCc HK7
                obtain ⟨k, rfl, hkn, hcur, HM⟩ := hrel
                have hsx := HM.out.size
                have HBx := hide (HB5.out.trans (HM.out.below (B := w.heap.size) (fun g hg e => by omega) HB5.out.size))
                by_cases hlt : k < np
                · have hlt' : (k : Int) < np := by omega
                  have hk1 : k + 1 ≤ np := hlt
                  have hkp : k < path.length := by rw [HNp.out]; exact hlt
                  obtain ⟨AI', cI', e, hI⟩ := HPr.out
                  rw [HNp.out] at e
                  cases e
                  obtain ⟨g, o, rfl, hg, hc1⟩ := hI k hkp
                  have HDr := hide (List.drop_eq_getElem_cons hkp)
                  have ci : wr.cell? ⟨g, o + k, none⟩ = some (.int .i64 path[k]) := (HBx.out.cell (p := ⟨g, o + k, none⟩) hg).trans (by have := hc1 0 (by omega); rw [Nat.mul_one, Nat.add_zero] at this; exact this)
                  generalize path[k] = z at *
                  clear hc1 hI
                  rcases hcur with ⟨q, Q, B1, B2, m1, r1, m2, r2, rfl, HF, HPq, HFr, HCq, HKx⟩ | ⟨rfl, HNo, HKx⟩
                  · obtain ⟨c0, c1, c2, c3, c4, c5, c6, c7, c8, c9, c10⟩ := blk11 HKx.out
                    by_cases hz : 1 ≤ z ∧ z ≤ m2
                    · obtain ⟨j, hzj⟩ : ∃ j : Nat, z = (j : Int) + 1 := ⟨(z - 1).toNat, by omega⟩
                      have hjk : j < q.kids.length := by rw [HFr.out.2.1]; omega
                      have HF2 : Hid (findP q.kids[j] (path.drop (k + 1)) = rr) := by
                        show _ = _
                        rw [← HF.out, HDr.out, find_kid hjk hzj]
                      obtain ⟨g2, o2, C1, d1, C2, d2, rfl, hg2, hc2, hp2⟩ := HPq.out.kid j hjk
                      have HC2 := hide (cnt_kid HCq.out hjk)
                      have hmx : m2 ≤ 1000000000000000 := by have := cnt_len HCq.out; rw [HFr.out.2.1] at this; omega
                      generalize q.kids[j] = kid at *
                      obtain ⟨k1, hkk1⟩ : ∃ m, kid.h.params.length = m := ⟨_, rfl⟩
                      obtain ⟨k2, hk2⟩ : ∃ m, kid.kids.length = m := ⟨_, rfl⟩
                      obtain ⟨K2, hK2⟩ : ∃ K2, kid.h = K2 := ⟨_, rfl⟩
                      rw [hkk1, hk2, hK2] at hc2 hp2
                      have HFr2 : Hid (kid.h.params.length = k1 ∧ kid.kids.length = k2 ∧ kid.h = K2) := ⟨hkk1, hk2, hK2⟩
                      have HP2 := hide hp2
                      obtain ⟨e0, e1, e2, e3, e4, e5, e6, e7, e8, e9, e10⟩ := row11 (fun i hi => (HBx.out.cell (p := ⟨g2, o2 + j * 11 + i, none⟩) hg2).trans (hc2 i hi))
                      have HK3' := hide (blk_set11 HKx.out (.string ⟨K2.type.toArray⟩) (.string ⟨K2.sub.toArray⟩) (.slice C1 k1 d1) (.string ⟨K2.id.toArray⟩) (.string ⟨K2.desc.toArray⟩) (.string ⟨K2.enc.toArray⟩) (.int .i64 K2.at') (.int .i64 K2.body) (.int .i64 K2.end') (.int .i64 K2.lines) (.slice C2 k2 d2))
                      have HM3 := hide (HM.out.trans (Mvs11 wr b7 (.string ⟨K2.type.toArray⟩) (.string ⟨K2.sub.toArray⟩) (.slice C1 k1 d1) (.string ⟨K2.id.toArray⟩) (.string ⟨K2.desc.toArray⟩) (.string ⟨K2.enc.toArray⟩) (.int .i64 K2.at') (.int .i64 K2.body) (.int .i64 K2.end') (.int .i64 K2.lines) (.slice C2 k2 d2)))
                      have fD := HKx.out.frozen
                      have lD := HKx.out.lt
                      subst hzj
                      have z1 : ¬ ((j : Int) + 1 < 1) := by omega
                      have z2 : ¬ ((j : Int) + 1 > m2) := by omega
                      have z3 : (j : Int) + 1 - 1 = j := by omega
                      have z4 : (j : Int) < m2 := by omega
                      clear hkk1 hk2 hK2 hc2 hp2 hz
                      go_wp2
                      go_roundw
                      case rel => exact ⟨k + 1, by go_num, hk1, .inl ⟨kid, K2, C1, C2, k1, d1, k2, d2, rfl, HF2, HP2, HFr2, HC2, HK3'⟩, HM3⟩
                      case measure => simp [intOf]; omega
                    · have HNo : Hid (rr = none) := by
                        show _ = _
                        rw [← HF.out, HDr.out]
                        exact find_no (by rw [HFr.out.2.1]; omega)
                      have hmx : m2 ≤ 1000000000000000 := by have := cnt_len HCq.out; rw [HFr.out.2.1] at this; omega
                      by_cases hz1 : z < 1
                      · clear hz
                        have hcz := HKx.out.cell
                        have hfz := HKx.out.frozen
                        have hlz := HKx.out.lt
                        have HKn := hide (blk_set11 (h := Q) HKx.out (.string ⟨#[]⟩) (.string ⟨#[]⟩) (.slice none 0 0) (.string ⟨#[]⟩) (.string ⟨#[]⟩) (.string ⟨#[]⟩) (.int .i64 0) (.int .i64 0) (.int .i64 0) (.int .i64 0) (.slice none 0 0))
                        have HMn := hide (HM.out.trans (Mvs11 wr b7 (.string ⟨#[]⟩) (.string ⟨#[]⟩) (.slice none 0 0) (.string ⟨#[]⟩) (.string ⟨#[]⟩) (.string ⟨#[]⟩) (.int .i64 0) (.int .i64 0) (.int .i64 0) (.int .i64 0) (.slice none 0 0)))
                        go_wp2
                        go_roundw
                        case rel => exact ⟨k + 1, by go_num, hk1, .inr ⟨rfl, HNo, HKn⟩, HMn⟩
                        case measure => simp [intOf]; omega
                      · have hz2 : z > m2 := by omega
                        clear hz
                        have hcz := HKx.out.cell
                        have hfz := HKx.out.frozen
                        have hlz := HKx.out.lt
                        have HKn := hide (blk_set11 (h := Q) HKx.out (.string ⟨#[]⟩) (.string ⟨#[]⟩) (.slice none 0 0) (.string ⟨#[]⟩) (.string ⟨#[]⟩) (.string ⟨#[]⟩) (.int .i64 0) (.int .i64 0) (.int .i64 0) (.int .i64 0) (.slice none 0 0))
                        have HMn := hide (HM.out.trans (Mvs11 wr b7 (.string ⟨#[]⟩) (.string ⟨#[]⟩) (.slice none 0 0) (.string ⟨#[]⟩) (.string ⟨#[]⟩) (.string ⟨#[]⟩) (.int .i64 0) (.int .i64 0) (.int .i64 0) (.int .i64 0) (.slice none 0 0)))
                        go_wp2
                        go_roundw
                        case rel => exact ⟨k + 1, by go_num, hk1, .inr ⟨rfl, HNo, HKn⟩, HMn⟩
                        case measure => simp [intOf]; omega
                  · obtain ⟨c0, c1, c2, c3, c4, c5, c6, c7, c8, c9, c10⟩ := blk11 (h := zeroH) HKx.out
                    have hcz := HKx.out.cell
                    have hfz := HKx.out.frozen
                    have hlz := HKx.out.lt
                    have HKn := hide (blk_set11 (h := zeroH) HKx.out (.string ⟨#[]⟩) (.string ⟨#[]⟩) (.slice none 0 0) (.string ⟨#[]⟩) (.string ⟨#[]⟩) (.string ⟨#[]⟩) (.int .i64 0) (.int .i64 0) (.int .i64 0) (.int .i64 0) (.slice none 0 0))
                    have HMn := hide (HM.out.trans (Mvs11 wr b7 (.string ⟨#[]⟩) (.string ⟨#[]⟩) (.slice none 0 0) (.string ⟨#[]⟩) (.string ⟨#[]⟩) (.string ⟨#[]⟩) (.int .i64 0) (.int .i64 0) (.int .i64 0) (.int .i64 0) (.slice none 0 0)))
                    go_wp2
                    go_roundw
                    case rel => exact ⟨k + 1, by go_num, hk1, .inr ⟨rfl, HNo, HKn⟩, HMn⟩
                    case measure => simp [intOf]; omega
                · have hlt' : ¬ ((k : Int) < np) := by omega
                  obtain rfl : np = k := by omega
                  rcases hcur with ⟨q, Q, B1, B2, m1, r1, m2, r2, rfl, HF, HPq, HFr, HCq, HKx⟩ | ⟨rfl, HNo, HKx⟩
                  · have HFq : Hid (rr = some q) := by
                      show _ = _
                      rw [← HF.out, List.drop_eq_nil_of_le (by rw [HNp.out]; exact Nat.le_refl _)]
                      cases q
                      rfl
                    have HP7 : Hid (PB (n + 1) wr b7 q) := by
                      refine ⟨B1, r1, B2, r2, ?_, ?_⟩
                      · rw [HFr.out.1, HFr.out.2.1, HFr.out.2.2]
                        exact HKx.out
                      · rw [HFr.out.1, HFr.out.2.1, HFr.out.2.2]
                        exact ((HPq.out.below HBx.out).mono (fun g _ hg => by omega)).succ
                    go_wp2
                    go_meet
                    case rel => exact ⟨by rw [HFq.out]; rfl, by rw [HFq.out]; exact HP7.out, HM.out⟩
                  · go_wp2
                    go_meet
                    case rel => exact ⟨by rw [HNo.out]; rfl, by rw [HNo.out]; exact pb_zero _ _ HKx.out, HM.out⟩
         case rest =>
          obtain ⟨rfl, hpb7, hm7⟩ := hcut.out
          obtain ⟨B1, r1, B2, r2, hk5, hp5⟩ := HPo.out _ hm7
          obtain ⟨C1, s1, C2, s2, hk7, hp7⟩ := hpb7
          have hcn : CntC (rr.getD zeroP) := by rw [← HRr.out]; exact fnd_cnt HCc.out
          have HB8 := hide (HB5.out.trans (hm7.below (B := w.heap.size) (fun g hg e => by omega) HB5.out.size))
          obtain ⟨got, hgot⟩ : ∃ got, rr.getD zeroP = got := ⟨_, rfl⟩
          rw [hgot] at hk5 hp5 hk7 hp7 hcn
          obtain ⟨m1, hm1⟩ : ∃ m, got.h.params.length = m := ⟨_, rfl⟩
          obtain ⟨m2, hm2⟩ : ∃ m, got.kids.length = m := ⟨_, rfl⟩
          obtain ⟨Q, hQ⟩ : ∃ Q, got.h = Q := ⟨_, rfl⟩
          rw [hm1, hm2, hQ] at hk5 hp5 hk7 hp7
          have HSm := hide (rsame_yes (n + 1) got _ _ _ (hp5.mono (S' := fun g => 0 ≤ g) (fun _ _ _ => Nat.zero_le _)) (hp7.mono (S' := fun g => 0 ≤ g) (fun _ _ _ => Nat.zero_le _)) hcn.cnt)
          obtain ⟨x0, x1, x2, x3, x4, x5, x6, x7, x8, x9, x10⟩ := blk11 hk5
          obtain ⟨y0, y1, y2, y3, y4, y5, y6, y7, y8, y9, y10⟩ := blk11 hk7
          generalize rr.isSome = sb
          have hsb : (sb == sb) = true := by simp
          unfold phA at HSm
          clear hcut hm7 hk5 hp5 hk7 hp7 hcn hgot hm1 hm2 hQ HPo
          go_wp2_with fail
          refine HSm.out.mono ?_
          rintro e w9 ⟨rfl, hb9⟩
          have HB9 := hide (HB8.out.trans (hb9.mono HB8.out.size))
          clear hb9
          go_wp2
          go_ret
          exact ⟨rfl, HB9.out⟩
    · have h200' : ((np : Int) > 200) := by omega
      go_wp2
      go_ret
      exact ⟨rfl, HB3.out⟩
end Go.Proofs.YtkppeejbmalefaaGreatDoor
