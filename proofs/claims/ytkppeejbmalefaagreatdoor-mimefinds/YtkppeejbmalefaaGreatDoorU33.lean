/- mime.clone. -/
import Derived.Test.YtkppeejbmalefaaGreatDoorU32
set_option linter.unusedSimpArgs false
set_option linter.unusedVariables false
namespace Go.Proofs.YtkppeejbmalefaaGreatDoor
open Go.RowKit Go.Shelf
/-- All lists of a part can be copied. -/
inductive CntC : Part → Prop
  | mk (h : PH) (ks : List Part) : h.params.length * 32 ≤ 140737488355328 → ks.length * 160 ≤ 140737488355328 → (∀ k ∈ ks, CntC k) → CntC (.mk h ks)
def PcOut (n : Nat) (p : Part) (w : World) (e : Ending) (w' : World) : Prop := ∃ v, e = .returned v ∧ PA n (fun g => w.heap.size ≤ g) w' v p ∧ Below w.heap.size w w'
def PcCall (n : Nat) : Prop := ∀ (p : Part) (v : Value) (w : World), PA n (fun g => 0 ≤ g) w v p → CntC p → Calls Tryz.prog 27 #[v] w (PcOut n p w)
theorem list_ofP {α : Type} : ∀ (n : Nat) (p : Nat → α → Prop), (∀ i, i < n → ∃ x, p i x) → ∃ l : List α, l.length = n ∧ ∀ i (h : i < l.length), p i l[i]
  | 0, _, _ => ⟨[], rfl, fun i h => by simp at h⟩
  | n + 1, p, hp => by
    obtain ⟨l, hl, h⟩ := list_ofP n p (fun i hi => hp i (by omega))
    obtain ⟨x, hx⟩ := hp n (by omega)
    refine ⟨l ++ [x], by simp [hl], fun i hi => ?_⟩
    by_cases hlt : i < l.length
    · rw [List.getElem_append_left hlt]
      exact h i hlt
    · have hi' : i = n := by simp at hi; omega
      subst hi'
      rw [List.getElem_append_right (by omega)]
      simpa using hx
theorem kids_list {n : Nat} {w : World} {A : Option Addr} {ks : List Part} {c : Nat} (hk : KidAt n w A ks) : ∃ vss : List (Array Value), vss.length = ks.length ∧ (∀ x ∈ vss, x.size = 11 ∧ ∀ u ∈ x.toList, u.oneCell' = true) ∧ ReadS (fun g => 0 ≤ g) Array.toList 11 w (.slice A vss.length c) vss ∧ ∀ i (hi : i < ks.length) (hj : i < vss.length), PA n (fun g => g < w.heap.size) w (.agg vss[i]) ks[i] := by
  obtain ⟨vss, hl, h⟩ := list_ofP (α := Array Value) ks.length (fun i x => ∀ hi : i < ks.length, ∃ g o, A = some ⟨g, o, none⟩ ∧ g < w.heap.size ∧ x.size = 11 ∧ (∀ j, j < 11 → w.cell? ⟨g, o + i * 11 + j, none⟩ = x[j]?) ∧ PA n (fun g => 0 ≤ g) w (.agg x) ks[i]) (fun i hi => by
    obtain ⟨g, o, vs, e, _, hg, hz, hc, hp⟩ := hk i hi
    exact ⟨vs, fun _ => ⟨g, o, e, hg, hz, hc, hp⟩⟩)
  refine ⟨vss, hl, fun x hx => ?_, ⟨A, c, rfl, fun i hi => ?_⟩, fun i hi hj => ?_⟩
  · obtain ⟨i, hi, rfl⟩ := List.getElem_of_mem hx
    obtain ⟨g, o, _, _, hz, _, hp⟩ := h i hi (by omega)
    refine ⟨hz, fun u hu => ?_⟩
    obtain ⟨A1, c1, A2, c2, e⟩ := hp.form
    injection e with e
    rw [e] at hu
    simp [phA] at hu
    rcases hu with rfl | rfl | rfl | rfl | rfl | rfl | rfl | rfl | rfl | rfl | rfl <;> rfl
  · obtain ⟨g, o, e, hg, _, hc, _⟩ := h i hi (by omega)
    exact ⟨g, o, e, Nat.zero_le _, hg, fun j hj => by rw [Array.getElem?_toList]; exact hc j hj⟩
  · obtain ⟨g, o, _, _, _, _, hp⟩ := h i hj hi
    exact hp.mono (fun g hg _ => hg)
set_option maxRecDepth 20000 in
set_option maxHeartbeats 4000000 in
theorem clone_step (n : Nat) (IH : PcCall n) (h : PH) (ks : List Part) (Ap A : Option Addr) (cp c : Nat) (w : World)
    (hr : ReadS (fun g => 0 ≤ g) Pm.cs 2 w (.slice Ap h.params.length cp) h.params) (hk : KidAt n w A ks) (hc : CntC (.mk h ks)) :
    Calls Tryz.prog 27 #[.agg (phA h (.slice Ap h.params.length cp) (.slice A ks.length c))] w (PcOut (n + 1) (.mk h ks) w) := by
  cases hc with
  | mk _ _ l1 l2 l3 =>
    obtain ⟨vss, hvl, hv11, hvr, hvp⟩ := kids_list (c := c) hk
    obtain ⟨i0, hi, hz0, hz1, hz2⟩ := info_three ptInfo
    have HCk := hide l3
    have HIH := hide IH
    have hA1 := (Below.refl w.heap.size w).alloc (Nat.le_refl _) (.cells (phA h (.slice Ap h.params.length cp) (.slice A ks.length c)) 28)
    have hA2 := hA1.alloc hA1.size (.cells #[.string ⟨#[]⟩, .string ⟨#[]⟩, .slice none 0 0, .string ⟨#[]⟩, .string ⟨#[]⟩, .string ⟨#[]⟩, .int .i64 0, .int .i64 0, .int .i64 0, .int .i64 0, .slice none 0 0] 28)
    have hs1 : (w.alloc (.cells (phA h (.slice Ap h.params.length cp) (.slice A ks.length c)) 28)).heap.size = w.heap.size + 1 := World.size_alloc _ _
    have hK := (Blk.new w (phA h (.slice Ap h.params.length cp) (.slice A ks.length c)) 28).alloc (.cells #[.string ⟨#[]⟩, .string ⟨#[]⟩, .slice none 0 0, .string ⟨#[]⟩, .string ⟨#[]⟩, .string ⟨#[]⟩, .int .i64 0, .int .i64 0, .int .i64 0, .int .i64 0, .slice none 0 0] 28)
    have hR := Blk.new (w.alloc (.cells (phA h (.slice Ap h.params.length cp) (.slice A ks.length c)) 28)) #[.string ⟨#[]⟩, .string ⟨#[]⟩, .slice none 0 0, .string ⟨#[]⟩, .string ⟨#[]⟩, .string ⟨#[]⟩, .int .i64 0, .int .i64 0, .int .i64 0, .int .i64 0, .slice none 0 0] 28
    rw [hs1] at hR
    have hs2 : ((w.alloc (.cells (phA h (.slice Ap h.params.length cp) (.slice A ks.length c)) 28)).alloc (.cells #[.string ⟨#[]⟩, .string ⟨#[]⟩, .slice none 0 0, .string ⟨#[]⟩, .string ⟨#[]⟩, .string ⟨#[]⟩, .int .i64 0, .int .i64 0, .int .i64 0, .int .i64 0, .slice none 0 0] 28)).heap.size = w.heap.size + 1 + 1 := by rw [World.size_alloc, hs1]
    obtain ⟨np, hnp⟩ : ∃ np, h.params.length = np := ⟨_, rfl⟩
    obtain ⟨nk, hnk⟩ : ∃ nk, ks.length = nk := ⟨_, rfl⟩
    have HPc : Hid (∀ W, Below w.heap.size w W → Calls Tryz.prog 57 #[.slice Ap np cp] W (ClOut Pm.cs 2 h.params W)) := fun W hW => by
      have h9 := pclone_any (S := fun g => 0 ≤ g) h.params Ap cp W (hr.keep (T := fun _ => False) (Mvs.of_below hW) (fun _ _ c => c)) l1
      rw [hnp] at h9
      exact h9
    have HKc : Hid (∀ W, Below w.heap.size w W → Calls Tryz.prog 58 #[.slice A nk c] W (ClOut Array.toList 11 vss W)) := fun W hW => by
      have h9 := kclone_any (S := fun g => 0 ≤ g) vss hv11 A c W (hvr.keep (T := fun _ => False) (Mvs.of_below hW) (fun _ _ c => c)) (by rw [hvl]; exact l2)
      rw [hvl, hnk] at h9
      exact h9
    rw [hnp, hnk] at hA1 hA2 hK hR hs1 hs2 ⊢
    rw [hnk] at l2 hvl
    rw [hnp] at l1
    have HNk := hide hnk
    have HNp := hide hnp
    have HVl := hide hvl
    have HV11 := hide hv11
    have HVp := hide hvp
    obtain ⟨W2, hW2⟩ : ∃ W2, (w.alloc (.cells (phA h (.slice Ap np cp) (.slice A nk c)) 28)).alloc (.cells #[.string ⟨#[]⟩, .string ⟨#[]⟩, .slice none 0 0, .string ⟨#[]⟩, .string ⟨#[]⟩, .string ⟨#[]⟩, .int .i64 0, .int .i64 0, .int .i64 0, .int .i64 0, .slice none 0 0] 28) = W2 := ⟨_, rfl⟩
    rw [hW2] at hA2 hK hR hs2
    obtain ⟨c0, c1, c2, c3, c4, c5, c6, c7, c8, c9, c10⟩ := blk11 hK
    have HK2 := hide hK
    have HR2 := hide hR
    have HA2 := hide hA2
    unfold phA at hW2
    clear hr hk l3 IH hA1 hA2 hK hR hnp hnk hvl hv11 hvr hvp hs1
    go_enter Tryz.func27, Tryz.ntmps27
    unfold phA
    go_wp2_with fail
    refine (HPc.out _ HA2.out).mono ?_
    rintro e w3 ⟨v3, rfl, hrow3, hb3⟩
    obtain ⟨A3, c3', rfl⟩ := hrow3.form
    rw [HNp.out]
    have HP3 := hide (hrow3.readS pm_len)
    have HK3 := hide (HK2.out.below hb3 HK2.out.lt)
    have HR3 := hide (HR2.out.below hb3 HR2.out.lt)
    have HA3 := hide (HA2.out.trans (hb3.mono HA2.out.size))
    have hs3 := hb3.size
    have hcD := HK3.out.cell
    have hfD := HK3.out.frozen
    have hlD := HK3.out.lt
    clear hrow3 hb3 hW2 c0 c1 c2 c3 c4 c5 c6 c7 c8 c9 c10 HPc HK2 HR2
    have HK4 := hide (HK3.out.set 2 (.slice A3 np c3'))
    have HA4 := hide (HA3.out.setCell (p := ⟨w.heap.size, 2, none⟩) (by dsimp only; omega) (.slice A3 np c3'))
    have HM4 : Hid (Mvs (fun k => k = w.heap.size) w3 (w3.setCell ⟨w.heap.size, 2, none⟩ (.slice A3 np c3'))) := (Mvs.refl _ _).setCell _ _ (fun _ => rfl)
    have k10 : (w3.setCell ⟨w.heap.size, 2, none⟩ (.slice A3 np c3')).cell? ⟨w.heap.size, 10, none⟩ = some (.slice A nk c) := HK4.out.cell 10
    go_wp2_with fail
    refine (HKc.out _ HA4.out).mono ?_
    rintro e w5 ⟨v5, rfl, hrow5, hb5⟩
    obtain ⟨A5, c5', rfl⟩ := hrow5.form
    rw [HVl.out]
    clear k10 hcD hfD HKc
    have hz4 : (w3.setCell ⟨w.heap.size, 2, none⟩ (.slice A3 np c3')).heap.size = w3.heap.size := by simp [World.setCell]
    have hs5 := hb5.size
    rw [hz4] at hs5
    have HK5 := hide (HK4.out.below hb5 HK4.out.lt)
    have HR5 := hide ((HM4.out.blk HR3.out (by omega)).below hb5 (by rw [hz4]; exact HR3.out.lt))
    have HA5 := hide (HA4.out.trans (hb5.mono HA4.out.size))
    have HP5 : Hid (ReadS (fun g => w.heap.size + 2 ≤ g ∧ g < w3.heap.size) Pm.cs 2 w5 (.slice A3 np c3') h.params) := by
      have h1 := (HP3.out.mono (S' := fun g => w.heap.size + 2 ≤ g ∧ g < w3.heap.size) (fun g hg hS => ⟨by omega, hg⟩)).keep HM4.out (fun g hg => by omega)
      rw [HNp.out] at h1
      exact h1.keep (T := fun _ => False) (Mvs.of_below hb5) (fun _ _ c => c)
    obtain ⟨G5, hrw5, hG5⟩ := hrow5
    rw [hz4] at hG5
    rw [HVl.out] at hrw5
    have HRw5 := hide hrw5
    have hcD := HK5.out.cell
    have hfD := HK5.out.frozen
    have hlD5 := HK5.out.lt
    have HK6 := hide (HK5.out.set 10 (.slice A5 nk c5'))
    have HM6 : Hid (Mvs (fun k => k = w.heap.size) w5 (w5.setCell ⟨w.heap.size, 10, none⟩ (.slice A5 nk c5'))) := (Mvs.refl _ _).setCell _ _ (fun _ => rfl)
    have HA6 := hide (HA5.out.setCell (p := ⟨w.heap.size, 10, none⟩) (by dsimp only; omega) (.slice A5 nk c5'))
    have k10 : (w5.setCell ⟨w.heap.size, 10, none⟩ (.slice A5 nk c5')).cell? ⟨w.heap.size, 10, none⟩ = some (.slice A5 nk c5') := HK6.out.cell 10
    have HG5 : Hid (∀ g, G5 = some g → w3.heap.size ≤ g ∧ g < w5.heap.size) := fun g e => ⟨hG5 g e, hrw5.lt g e⟩
    clear hrw5 hG5 hb5 HA3 HK3 HR3 HP3 HM4 HA4 HK4
    go_wp2
    obtain ⟨W6, hW6⟩ : ∃ W6, w5.setCell ⟨w.heap.size, 10, none⟩ (.slice A5 nk c5') = W6 := ⟨_, rfl⟩
    rw [hW6] at HK6 HM6 HA6 ⊢
    have hz6 : W6.heap.size = w5.heap.size := by rw [← hW6]; simp [World.setCell]
    have HZ6 := hide hz6
    clear k10 hcD hfD hW6 hz6
    have HR6 := hide (HM6.out.blk HR5.out (by omega))
    have HP6 := hide (HP5.out.keep HM6.out (fun g hg => by omega))
    have HRw6 := hide (HRw5.out.keep HM6.out (fun g e => by have := HG5.out g e; omega))
    clear HR5 HP5 HRw5 HK5 HA5 HM6
    have hmxk : nk ≤ 140737488355328 := by omega
    go_loopw [16] (fun v16 wx => ∃ (k : Nat) (us : List (Array Value)), v16 = .int .i64 k ∧ k ≤ nk ∧ us.length = nk ∧ Hid (∀ x ∈ us, x.size = 11) ∧ Hid (Rw wx 11 (.slice A5 nk c5') nk (us.flatMap Array.toList) G5) ∧ Hid (∀ i (hi : i < ks.length) (hj : i < us.length), i < k → PA n (fun g => w.heap.size + 2 ≤ g ∧ some g ≠ G5) wx (.agg us[i]) ks[i]) ∧ Hid (∀ i, k ≤ i → us[i]? = vss[i]?) ∧ Hid (Mvs (fun g => some g = G5) W6 wx)) (fun v16 _ => nk - (intOf v16).toNat)
    case atStart => exact ⟨0, vss, rfl, Nat.zero_le _, HVl.out, fun x hx => (HV11.out x hx).1, HRw6, fun i hi hj h0 => absurd h0 (Nat.not_lt_zero _), fun _ _ => rfl, Mvs.refl _ _⟩
    case round =>
      obtain ⟨k, us, rfl, hkn, hul, HU11, HRw, HUp, HUv, HM⟩ := hrel
      have hsx := HM.out.size
      have hz6 := HZ6.out
      have hGD : ¬ some w.heap.size = G5 := fun e => by have := (HG5.out _ e.symm).1; omega
      have hGR : ¬ some (w.heap.size + 1) = G5 := fun e => by have := (HG5.out _ e.symm).1; omega
      have HKx := hide (HM.out.blk HK6.out hGD)
      have HRx := hide (HM.out.blk HR6.out hGR)
      by_cases hlt : k < nk
      · have hlt' : (k : Int) < nk := by omega
        obtain ⟨g5, o5, hg5, hA5, hcap, hfz⟩ : ∃ g5 o5, G5 = some g5 ∧ A5 = some ⟨g5, o5, none⟩ ∧ nk ≤ c5' ∧ ∀ j, j < c5' * 11 → (∀ (W : World), Rw W 11 (.slice A5 nk c5') nk (us.flatMap Array.toList) G5 → W.frozen? ⟨g5, o5 + j, none⟩ = false) := by
          rcases HRw.out.2 with ⟨_, h0, _⟩ | ⟨g, o, cap, e1, e2, h1, _, _, _, _⟩
          · omega
          · injection e2 with e2 _ e3
            subst e3
            refine ⟨g, o, e1, e2, h1, fun j hj W hW => ?_⟩
            rcases hW.2 with ⟨_, h0, _⟩ | ⟨g', o', cap', e1', e2', _, _, _, _, h5'⟩
            · omega
            · injection e2' with e2' _ e3'
              rw [e2] at e2'
              cases e2'
              subst e3'
              exact (h5' j hj).2
        subst hg5
        subst hA5
        have hkk : k < ks.length := by rw [HNk.out]; exact hlt
        have hku : k < us.length := by omega
        have hkv : k < vss.length := by rw [HVl.out]; exact hlt
        have huk : us[k] = vss[k] := by
          have := HUv.out k (Nat.le_refl _)
          rw [List.getElem?_eq_getElem hku, List.getElem?_eq_getElem hkv] at this
          exact Option.some.inj this
        have hpk := HVp.out k hkk hkv
        rw [← huk] at hpk
        have hCk := HCk.out _ (List.getElem_mem hkk)
        have hcell : ∀ (W : World), Rw W 11 (.slice (some ⟨g5, o5, none⟩) nk c5') nk (us.flatMap Array.toList) (some g5) → ∀ j, j < 11 → W.cell? ⟨g5, o5 + k * 11 + j, none⟩ = us[k][j]? := fun W hW j hj => by
          rcases hW.2 with ⟨h0, _⟩ | ⟨g', o', cap', e1', e2', _, _, _, h4', _⟩
          · cases h0
          · cases e1'
            cases e2'
            have h9 := flat11 us HU11.out k hku j hj
            have hz : us[k].size = 11 := HU11.out _ (List.getElem_mem hku)
            rw [Array.getElem?_eq_getElem (by omega)] at h9 ⊢
            rw [Nat.add_assoc]
            exact h4' _ _ h9
        obtain ⟨A1, q1, A2, q2, hform⟩ := hpk.form
        injection hform with hform
        obtain ⟨m1, hm1⟩ : ∃ m, ks[k].h.params.length = m := ⟨_, rfl⟩
        obtain ⟨m2, hm2⟩ : ∃ m, ks[k].kids.length = m := ⟨_, rfl⟩
        obtain ⟨H, hH⟩ : ∃ H, ks[k].h = H := ⟨_, rfl⟩
        rw [hm1, hm2, hH] at hform
        rw [hform] at hpk hcell
        have HPk := hide hpk
        have HCk1 := hide hCk
        have HCell := hide hcell
        have HFz := hide hfz
        have HFk : Hid (ks[k].h.params.length = m1 ∧ ks[k].kids.length = m2 ∧ ks[k].h = H) := ⟨hm1, hm2, hH⟩
        obtain ⟨c0, c1, c2, c3, c4, c5, c6, c7, c8, c9, c10⟩ := row11 (hcell wr HRw.out)
        have hwW := HA6.out.size
        have hg5b := HG5.out g5 rfl
        have HBw := hide (HA6.out.trans (HM.out.below (B := w.heap.size) (fun g hg e => by cases e; omega) HA6.out.size))
        have HXa := hide (Blk.new wr (phA H (.slice A1 m1 q1) (.slice A2 m2 q2)) 28)
        have HDa := hide (HKx.out.alloc (.cells (phA H (.slice A1 m1 q1) (.slice A2 m2 q2)) 28))
        have HBa := hide ((Below.refl wr.heap.size wr).alloc (Nat.le_refl _) (.cells (phA H (.slice A1 m1 q1) (.slice A2 m2 q2)) 28))
        have hza : (wr.alloc (.cells (phA H (.slice A1 m1 q1) (.slice A2 m2 q2)) 28)).heap.size = wr.heap.size + 1 := World.size_alloc _ _
        have hlD6 := HKx.out.lt
        clear hpk hCk hcell hfz hm1 hm2 hH huk hform
        go_wp2_with fail
        clear c0 c1 c2 c3 c4 c5 c6 c7 c8 c9 c10
        obtain ⟨Wa, hWa⟩ : ∃ Wa, wr.alloc (.cells (phA H (.slice A1 m1 q1) (.slice A2 m2 q2)) 28) = Wa := ⟨_, rfl⟩
        rw [hWa] at HXa HDa HBa hza
        unfold phA at hWa
        rw [hWa]
        clear hWa
        have HZA := hide hza
        clear hza
        refine regionL 6 (fun W => W.cell? ⟨w.heap.size, 10, none⟩ = some (.slice (some ⟨g5, o5, none⟩) nk c5') ∧ W.cell? ⟨wr.heap.size, 0, none⟩ = some (.string ⟨H.type.toArray⟩) ∧ W.cell? ⟨wr.heap.size, 1, none⟩ = some (.string ⟨H.sub.toArray⟩) ∧ W.cell? ⟨wr.heap.size, 2, none⟩ = some (.slice A1 m1 q1) ∧ W.cell? ⟨wr.heap.size, 3, none⟩ = some (.string ⟨H.id.toArray⟩) ∧ W.cell? ⟨wr.heap.size, 4, none⟩ = some (.string ⟨H.desc.toArray⟩) ∧ W.cell? ⟨wr.heap.size, 5, none⟩ = some (.string ⟨H.enc.toArray⟩) ∧ W.cell? ⟨wr.heap.size, 6, none⟩ = some (.int .i64 H.at') ∧ W.cell? ⟨wr.heap.size, 7, none⟩ = some (.int .i64 H.body) ∧ W.cell? ⟨wr.heap.size, 8, none⟩ = some (.int .i64 H.end') ∧ W.cell? ⟨wr.heap.size, 9, none⟩ = some (.int .i64 H.lines) ∧ W.cell? ⟨wr.heap.size, 10, none⟩ = some (.slice A2 m2 q2)) (by kernel_rfl) ?_
        have HTH : Hid (∀ W (S : Nat → Prop), Mvs S Wa W → ¬ S w.heap.size → ¬ S wr.heap.size → W.cell? ⟨w.heap.size, 10, none⟩ = some (.slice (some ⟨g5, o5, none⟩) nk c5') ∧ W.cell? ⟨wr.heap.size, 0, none⟩ = some (.string ⟨H.type.toArray⟩) ∧ W.cell? ⟨wr.heap.size, 1, none⟩ = some (.string ⟨H.sub.toArray⟩) ∧ W.cell? ⟨wr.heap.size, 2, none⟩ = some (.slice A1 m1 q1) ∧ W.cell? ⟨wr.heap.size, 3, none⟩ = some (.string ⟨H.id.toArray⟩) ∧ W.cell? ⟨wr.heap.size, 4, none⟩ = some (.string ⟨H.desc.toArray⟩) ∧ W.cell? ⟨wr.heap.size, 5, none⟩ = some (.string ⟨H.enc.toArray⟩) ∧ W.cell? ⟨wr.heap.size, 6, none⟩ = some (.int .i64 H.at') ∧ W.cell? ⟨wr.heap.size, 7, none⟩ = some (.int .i64 H.body) ∧ W.cell? ⟨wr.heap.size, 8, none⟩ = some (.int .i64 H.end') ∧ W.cell? ⟨wr.heap.size, 9, none⟩ = some (.int .i64 H.lines) ∧ W.cell? ⟨wr.heap.size, 10, none⟩ = some (.slice A2 m2 q2)) := fun W S hK h1 h2 => ⟨(hK.blk HDa.out h1).cell 10, (hK.blk HXa.out h2).cell 0, (hK.blk HXa.out h2).cell 1, (hK.blk HXa.out h2).cell 2, (hK.blk HXa.out h2).cell 3, (hK.blk HXa.out h2).cell 4, (hK.blk HXa.out h2).cell 5, (hK.blk HXa.out h2).cell 6, (hK.blk HXa.out h2).cell 7, (hK.blk HXa.out h2).cell 8, (hK.blk HXa.out h2).cell 9, (hK.blk HXa.out h2).cell 10⟩
        have HT0 := HTH.out Wa.drew (fun _ => False) (Mvs.refl _ _).drew (fun c => c) (fun c => c)
        refine takeW (i := 0) (v := (.pointer (some ⟨w.heap.size, 10, none⟩))) rfl (by kernel_rfl) (by kernel_rfl) (by kernel_rfl) rfl (fun _ _ _ h => h) (fun _ => HT0) (Or.inl ⟨by rfl, fun W _ => by go_simp⟩) ?_
        simp only [Act.put, List.getElem_toArray, List.getElem_cons_succ, List.getElem_cons_zero, List.setIfInBounds_toArray, List.set_cons_zero, List.set_cons_succ]
        refine takeL (i := 1) (v := (.slice (some ⟨g5, o5, none⟩) nk c5')) rfl (by kernel_rfl) (by kernel_rfl) (by kernel_rfl) (by kernel_rfl) (by kernel_rfl) (fun _ _ _ h => h) HT0 (Or.inl ⟨by rfl, fun W hW => by obtain ⟨t0, t1, t2, t3, t4, t5, t6, t7, t8, t9, t10, t11⟩ := hW; go_simp⟩) ?_
        simp only [Act.put, List.getElem_toArray, List.getElem_cons_succ, List.getElem_cons_zero, List.setIfInBounds_toArray, List.set_cons_zero, List.set_cons_succ]
        refine takeW (i := 2) (v := (.int .i64 (k : Nat))) rfl (by kernel_rfl) (by kernel_rfl) (by kernel_rfl) rfl (fun _ _ _ h => h) (fun _ => HT0) (Or.inl ⟨by rfl, fun W _ => by go_simp⟩) ?_
        simp only [Act.put, List.getElem_toArray, List.getElem_cons_succ, List.getElem_cons_zero, List.setIfInBounds_toArray, List.set_cons_zero, List.set_cons_succ]
        refine takeL (i := 3) (v := (.agg #[.string ⟨H.type.toArray⟩, .string ⟨H.sub.toArray⟩, .slice A1 m1 q1, .string ⟨H.id.toArray⟩, .string ⟨H.desc.toArray⟩, .string ⟨H.enc.toArray⟩, .int .i64 H.at', .int .i64 H.body, .int .i64 H.end', .int .i64 H.lines, .slice A2 m2 q2])) rfl (by kernel_rfl) (by kernel_rfl) (by kernel_rfl) (by kernel_rfl) (by kernel_rfl) (fun _ _ _ h => h) HT0 (Or.inl ⟨by rfl, fun W hW => by obtain ⟨t0, t1, t2, t3, t4, t5, t6, t7, t8, t9, t10, t11⟩ := hW; go_simp⟩) ?_
        simp only [Act.put, List.getElem_toArray, List.getElem_cons_succ, List.getElem_cons_zero, List.setIfInBounds_toArray, List.set_cons_zero, List.set_cons_succ]
        refine readyL (rs := [4]) (by kernel_rfl) (by simp) ?_
        refine AllL.cons rfl (fun K hK => ?_) AllL.nil
        try simp only [List.getElem_toArray, List.getElem_cons_succ, List.getElem_cons_zero]
        go_simp
        have hBd : Below w.heap.size w Wa.drew := (HBw.out.trans (HBa.out.mono HBw.out.size)).drew
        have HCl := hide (HIH.out ks[k] _ Wa.drew ((HPk.out.mono (S' := fun g => 0 ≤ g) (fun g _ _ => Nat.zero_le _)).below hBd) HCk1.out)
        unfold phA at HCl
        clear hBd
        refine HCl.out.mono ?_
        rintro e w7 ⟨v7, rfl, hpa7, hb7⟩
        have hb7' : Below Wa.heap.size Wa w7 := ⟨hb7.os, hb7.tape, hb7.output, hb7.size, hb7.block⟩
        have hpa7' : PA n (fun x => Wa.heap.size ≤ x) w7 v7 ks[k] := hpa7
        obtain ⟨B1, r1, B2, r2, rfl⟩ := hpa7'.form
        obtain ⟨hm1, hm2, hH⟩ := HFk.out
        rw [hm1, hm2, hH] at hpa7' ⊢
        have HM7 := hide (Mvs.of_below (S := fun _ => False) hb7')
        have HMw7 := hide ((Mvs.of_below (S := fun _ => False) HBa.out).trans HM7.out)
        have HPA7 := hide hpa7'
        have HRw7 := hide (HRw.out.keep HMw7.out (fun _ _ c => c))
        clear hm1 hm2 hH hb7 hb7' hpa7 hpa7' HCl
        refine hK.out _ _ (fun _ => HTH.out _ _ HM7.out (fun c => c) (fun c => c)) (fun HTn => ?_)
        clear hK K HT0
        have HT0 := HTn (by kernel_rfl)
        clear HTn
        unfold phA
        try simp only [Act.put, List.getElem_toArray, List.getElem_cons_succ, List.getElem_cons_zero, List.setIfInBounds_toArray, List.set_cons_zero, List.set_cons_succ]
        refine readyL (rs := [5]) (by kernel_rfl) (by simp) ?_
        refine AllL.cons rfl (fun K hK => ?_) AllL.nil
        try simp only [List.getElem_toArray, List.getElem_cons_succ, List.getElem_cons_zero]
        go_simp
        refine hK.out _ _ (fun _ => HTH.out _ _ HM7.out (fun c => c) (fun c => c)) (fun HTn => ?_)
        clear hK K HT0
        have HT0 := HTn (by kernel_rfl)
        clear HTn
        try simp only [Act.put, List.getElem_toArray, List.getElem_cons_succ, List.getElem_cons_zero, List.setIfInBounds_toArray, List.set_cons_zero, List.set_cons_succ]
        obtain ⟨c0, c1, c2, c3, c4, c5, c6, c7, c8, c9, c10⟩ := row11 (HCell.out w7 HRw7.out)
        have f0 : w7.frozen? ⟨g5, o5 + k * 11, none⟩ = false := by
          have h9 := HFz.out (k * 11 + 0) (by omega) w7 HRw7.out
          rw [← Nat.add_assoc] at h9
          exact h9
        have f1 : w7.frozen? ⟨g5, o5 + k * 11 + 1, none⟩ = false := by
          have h9 := HFz.out (k * 11 + 1) (by omega) w7 HRw7.out
          rw [← Nat.add_assoc] at h9
          exact h9
        have f2 : w7.frozen? ⟨g5, o5 + k * 11 + 2, none⟩ = false := by
          have h9 := HFz.out (k * 11 + 2) (by omega) w7 HRw7.out
          rw [← Nat.add_assoc] at h9
          exact h9
        have f3 : w7.frozen? ⟨g5, o5 + k * 11 + 3, none⟩ = false := by
          have h9 := HFz.out (k * 11 + 3) (by omega) w7 HRw7.out
          rw [← Nat.add_assoc] at h9
          exact h9
        have f4 : w7.frozen? ⟨g5, o5 + k * 11 + 4, none⟩ = false := by
          have h9 := HFz.out (k * 11 + 4) (by omega) w7 HRw7.out
          rw [← Nat.add_assoc] at h9
          exact h9
        have f5 : w7.frozen? ⟨g5, o5 + k * 11 + 5, none⟩ = false := by
          have h9 := HFz.out (k * 11 + 5) (by omega) w7 HRw7.out
          rw [← Nat.add_assoc] at h9
          exact h9
        have f6 : w7.frozen? ⟨g5, o5 + k * 11 + 6, none⟩ = false := by
          have h9 := HFz.out (k * 11 + 6) (by omega) w7 HRw7.out
          rw [← Nat.add_assoc] at h9
          exact h9
        have f7 : w7.frozen? ⟨g5, o5 + k * 11 + 7, none⟩ = false := by
          have h9 := HFz.out (k * 11 + 7) (by omega) w7 HRw7.out
          rw [← Nat.add_assoc] at h9
          exact h9
        have f8 : w7.frozen? ⟨g5, o5 + k * 11 + 8, none⟩ = false := by
          have h9 := HFz.out (k * 11 + 8) (by omega) w7 HRw7.out
          rw [← Nat.add_assoc] at h9
          exact h9
        have f9 : w7.frozen? ⟨g5, o5 + k * 11 + 9, none⟩ = false := by
          have h9 := HFz.out (k * 11 + 9) (by omega) w7 HRw7.out
          rw [← Nat.add_assoc] at h9
          exact h9
        have f10 : w7.frozen? ⟨g5, o5 + k * 11 + 10, none⟩ = false := by
          have h9 := HFz.out (k * 11 + 10) (by omega) w7 HRw7.out
          rw [← Nat.add_assoc] at h9
          exact h9
        have HRw8 := hide (put11 (i := k) HRw7.out HU11.out hku (.string ⟨H.type.toArray⟩) (.string ⟨H.sub.toArray⟩) (.slice B1 m1 r1) (.string ⟨H.id.toArray⟩) (.string ⟨H.desc.toArray⟩) (.string ⟨H.enc.toArray⟩) (.int .i64 H.at') (.int .i64 H.body) (.int .i64 H.end') (.int .i64 H.lines) (.slice B2 m2 r2))
        have HN8 := clone_next (B := w.heap.size + 2) (x := phA H (.slice B1 m1 r1) (.slice B2 m2 r2)) hku rfl (by omega) (by omega) HU11.out HUp.out HUv.out HM.out HMw7.out (mvs_put11 w7 g5 o5 k (.string ⟨H.type.toArray⟩) (.string ⟨H.sub.toArray⟩) (.slice B1 m1 r1) (.string ⟨H.id.toArray⟩) (.string ⟨H.desc.toArray⟩) (.string ⟨H.enc.toArray⟩) (.int .i64 H.at') (.int .i64 H.body) (.int .i64 H.end') (.int .i64 H.lines) (.slice B2 m2 r2)) (fun _ => HPA7.out.mono (fun g _ hg => by have := HZA.out; omega))
        have HN9 := hide HN8
        clear HN8
        refine readyL (rs := [6]) (by kernel_rfl) (by simp) ?_
        refine AllL.cons rfl (fun K hK => ?_) AllL.nil
        try simp only [List.getElem_toArray, List.getElem_cons_succ, List.getElem_cons_zero]
        go_simp
        refine hK.out _ _ (vac (by kernel_rfl)) (fun _ => ?_)
        clear hK K HT0
        try simp only [Act.put, List.getElem_toArray, List.getElem_cons_succ, List.getElem_cons_zero, List.setIfInBounds_toArray, List.set_cons_zero, List.set_cons_succ]
        refine doneL (by kernel_rfl) ?_ _
        clear c0 c1 c2 c3 c4 c5 c6 c7 c8 c9 c10 f0 f1 f2 f3 f4 f5 f6 f7 f8 f9 f10
        go_wp2
        go_roundw
        case rel => exact ⟨k + 1, _, by go_num, by omega, HN9.out.1.trans hul, HN9.out.2.1, HRw8, HN9.out.2.2.1, HN9.out.2.2.2.1, HN9.out.2.2.2.2⟩
        case measure => simp [intOf]; omega
      · obtain rfl : nk = k := by omega
        have HKr : Hid (KRow n (w.heap.size + 2) wr (.slice A5 nk c5') ks) := ⟨us, hul.trans HNk.out.symm, HU11.out, G5, (by rw [HNk.out]; exact HRw.out), fun g e => by have := (HG5.out g e).1; omega, fun i hi hj => HUp.out i hi hj (Nat.lt_of_lt_of_eq hi HNk.out)⟩
        have HPx := hide (HP6.out.keep HM.out (fun g hg e => by have := (HG5.out g e.symm).1; omega))
        have HBx := hide (HA6.out.trans (HM.out.below (B := w.heap.size) (fun g hg e => by have := (HG5.out g e.symm).1; omega) HA6.out.size))
        have hKx2 : Blk wr w.heap.size (phA h (.slice A3 np c3') (.slice A5 nk c5')) 28 := HKx.out
        obtain ⟨d0, d1, d2, d3, d4, d5, d6, d7, d8, d9, d10⟩ := blk11 hKx2
        clear hKx2
        have hcR := HRx.out.cell
        have hfR := HRx.out.frozen
        have hlR := HRx.out.lt
        have hlK := HKx.out.lt
        clear HUp HUv HRw HU11
        go_wp2
        have h9 := (((((((((((HRx.out.set 0 (.string ⟨h.type.toArray⟩)).set 1 (.string ⟨h.sub.toArray⟩)).set 2 (.slice A3 np c3')).set 3 (.string ⟨h.id.toArray⟩)).set 4 (.string ⟨h.desc.toArray⟩)).set 5 (.string ⟨h.enc.toArray⟩)).set 6 (.int .i64 h.at')).set 7 (.int .i64 h.body)).set 8 (.int .i64 h.end')).set 9 (.int .i64 h.lines)).set 10 (.slice A5 nk c5')).cell
        refine bodyPost_ret (v := .agg #[.string ⟨h.type.toArray⟩, .string ⟨h.sub.toArray⟩, .slice A3 np c3', .string ⟨h.id.toArray⟩, .string ⟨h.desc.toArray⟩, .string ⟨h.enc.toArray⟩, .int .i64 h.at', .int .i64 h.body, .int .i64 h.end', .int .i64 h.lines, .slice A5 nk c5']) (by simp [results, Tryz.results27, go_sem, h9]) rfl ?_
        have hmv := Mvs11 wr (w.heap.size + 1) (.string ⟨h.type.toArray⟩) (.string ⟨h.sub.toArray⟩) (.slice A3 np c3') (.string ⟨h.id.toArray⟩) (.string ⟨h.desc.toArray⟩) (.string ⟨h.enc.toArray⟩) (.int .i64 h.at') (.int .i64 h.body) (.int .i64 h.end') (.int .i64 h.lines) (.slice A5 nk c5')
        refine ⟨_, rfl, ?_, HBx.out.trans (hmv.below (B := w.heap.size) (fun g hg e => by omega) HBx.out.size)⟩
        have hpa := HKr.out.part (vp := .slice A3 np c3') (h := h) (HPx.out.mono (fun g _ hg => hg.1))
        exact (hpa.keep hmv (fun g hg e => by omega)).mono (fun g _ hg => by omega)
theorem clone_any : ∀ n, PcCall n
  | 0 => fun p v w hp _ => hp.elim
  | n + 1 => fun p v w hp hc => by
    cases p with
    | mk h ks =>
      obtain ⟨vp, A, c, rfl, hr, hk⟩ := hp
      obtain ⟨Ap, cp, rfl⟩ := hr.form
      exact clone_step n (clone_any n) h ks Ap A cp c w hr hk hc
end Go.Proofs.YtkppeejbmalefaaGreatDoor
