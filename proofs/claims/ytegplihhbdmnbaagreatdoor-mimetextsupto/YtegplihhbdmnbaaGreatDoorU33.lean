/- The document's Same, of any two parts. -/
import Derived.Test.YtegplihhbdmnbaaGreatDoorU32
set_option linter.unusedSimpArgs false
set_option linter.unusedVariables false
namespace Go.Proofs.YtegplihhbdmnbaaGreatDoor
open Go.RowKit Go.Shelf
def SaVCall (n : Nat) : Prop := ∀ (p p' : Part) (v v' : Value) (w : World), PA n (fun g => 0 ≤ g) w v p → PA n (fun g => 0 ≤ g) w v' p' → Cnt p → Cnt p' →
  Calls Tryz.prog 17 #[v, v'] w fun e w' => e = .returned (.bool (samP p p')) ∧ Below w.heap.size w w'
theorem take_eq_next {α : Type} {a b : List α} {i : Nat} (ha : i < a.length) (hb : i < b.length) (h : a.take i = b.take i) (e : a[i] = b[i]) : a.take (i + 1) = b.take (i + 1) := by
  rw [List.take_succ_eq_append_getElem ha, List.take_succ_eq_append_getElem hb, h, e]
theorem pm_ne {x y x' y' : List UInt8} {p p' : Pm} (hp : p = ⟨x, y⟩) (hp' : p' = ⟨x', y'⟩) (h : p ≠ p') : (x == x') = false ∨ (x = x' ∧ (y == y') = false) := by
  subst hp hp'
  by_cases e : x = x'
  · refine .inr ⟨e, beq_no (fun e2 => h ?_)⟩
    rw [e, e2]
  · exact .inl (beq_no e)
set_option maxRecDepth 20000 in
set_option maxHeartbeats 8000000 in
theorem rsameV_eq (n : Nat) (IH : SaVCall n) (h : PH) (PS' : List Pm) (ks ks' : List Part) (Ap Ap' A A' : Option Addr) (cp cp' c c' : Nat) (w : World) (R : Bool) (hR : R = (decide (h.params = PS') && samL ks ks')) (hl1 : PS'.length = h.params.length) (hl2 : ks'.length = ks.length)
    (hr : ReadS (fun g => 0 ≤ g) Pm.cs 2 w (.slice Ap h.params.length cp) h.params) (hr' : ReadS (fun g => 0 ≤ g) Pm.cs 2 w (.slice Ap' PS'.length cp') PS') (hk : KidAt n w A ks) (hk' : KidAt n w A' ks') (hc : Cnt (.mk h ks)) (hck' : ∀ k ∈ ks', Cnt k) :
    Calls Tryz.prog 17 #[.agg (phA h (.slice Ap h.params.length cp) (.slice A ks.length c)), .agg (phA h (.slice Ap' h.params.length cp') (.slice A' ks.length c'))] w fun e w' => e = .returned (.bool R) ∧ Below w.heap.size w w' := by
  obtain ⟨hb1, hb2⟩ := hc.par
  have HCk := hide hc.kids
  have HCk' := hide hck'
  have HR := hide hr.reads
  have HR' := hide hr'.reads
  rw [hl1] at HR'
  have HK := hide hk
  have HK' := hide hk'
  have HIH := hide IH
  clear hr hr' hk hk' hc IH hck'
  obtain ⟨np, hnp⟩ : ∃ np, h.params.length = np := ⟨_, rfl⟩
  have HNp := hide hnp
  obtain ⟨nk, hnk⟩ : ∃ nk, ks.length = nk := ⟨_, rfl⟩
  have HNk := hide hnk
  have HNk' : Hid (ks'.length = nk) := hl2.trans hnk
  have HNp' : Hid (PS'.length = np) := hl1.trans hnp
  rw [hnp] at HR HR' hb1 ⊢
  rw [hnk] at hb2 ⊢
  obtain ⟨PS, hPS⟩ : ∃ PS, h.params = PS := ⟨_, rfl⟩
  rw [hPS] at HR HNp hR
  have HRs := hide hR
  clear hnp hnk hPS hl1 hl2 hR
  have hA1 := (Below.refl w.heap.size w).alloc (Nat.le_refl _) (.cells (phA h (.slice Ap np cp) (.slice A nk c)) 40)
  have hA2 := hA1.alloc hA1.size (.cells (phA h (.slice Ap' np cp') (.slice A' nk c')) 40)
  have hK1 := Blk.new w (phA h (.slice Ap np cp) (.slice A nk c)) 40
  have hK1' := hK1.alloc (.cells (phA h (.slice Ap' np cp') (.slice A' nk c')) 40)
  have hK2 := Blk.new (w.alloc (.cells (phA h (.slice Ap np cp) (.slice A nk c)) 40)) (phA h (.slice Ap' np cp') (.slice A' nk c')) 40
  have hz : (w.alloc (.cells (phA h (.slice Ap np cp) (.slice A nk c)) 40)).heap.size = w.heap.size + 1 := World.size_alloc _ _
  rw [hz] at hK2
  obtain ⟨W2, hW2⟩ : ∃ W2, (w.alloc (.cells (phA h (.slice Ap np cp) (.slice A nk c)) 40)).alloc (.cells (phA h (.slice Ap' np cp') (.slice A' nk c')) 40) = W2 := ⟨_, rfl⟩
  rw [hW2] at hA2 hK1' hK2
  obtain ⟨c0, c1, c2, c3, c4, c5, c6, c7, c8, c9, c10⟩ := blk11 hK1'
  obtain ⟨d0, d1, d2, d3, d4, d5, d6, d7, d8, d9, d10⟩ := blk11 hK2
  have HK1 := hide hK1'
  have HK2 := hide hK2
  have HA2 := hide hA2
  have hs2 : w.heap.size + 1 < W2.heap.size := hK2.lt
  clear hA1 hA2 hK1 hK1' hK2 hz
  unfold phA at hW2
  go_enter Tryz.func17, Tryz.ntmps17
  unfold phA
  go_wp2
  clear c0 c1 c2 c3 c4 c5 c6 c7 c8 c9 c10 d0 d1 d2 d3 d4 d5 d6 d7 d8 d9 d10 hW2
  go_loopw [89] (fun v wx => ∃ (i : Nat), v = .int .i64 i ∧ i ≤ np ∧ Hid (PS.take i = PS'.take i) ∧ Hid (Below W2.heap.size W2 wx)) (fun v _ => np - (intOf v).toNat)
  case atStart => exact ⟨0, rfl, Nat.zero_le _, rfl, Below.refl _ _⟩
  case round =>
    obtain ⟨i, rfl, hin, HTk, HW⟩ := hrel
    have hsw := HW.out.size
    have hBK1 := (HW.out.block _ HK1.out.lt).trans HK1.out
    have hBK2 := (HW.out.block _ HK2.out.lt).trans HK2.out
    by_cases hlt : i < np
    · have hlt' : (i : Int) < np := by omega
      have hip : i < PS.length := by rw [HNp.out]; exact hlt
      have hip' : i < PS'.length := by rw [HNp'.out]; exact hlt
      obtain ⟨B, b, e2, hc2⟩ := HR.out
      obtain ⟨g2, o2, rfl, hg2, k2⟩ := hc2 i hip
      obtain ⟨B', b', e3, hc3⟩ := HR'.out
      obtain ⟨g3, o3, rfl, hg3, k3⟩ := hc3 i hip'
      injection e2 with e2a e2b e2c
      injection e3 with e3a e3b e3c
      subst e2a
      subst e3a
      subst e2c
      subst e3c
      clear e2b e3b
      obtain ⟨x, y, hab⟩ : ∃ a b, PS[i] = ⟨a, b⟩ := ⟨_, _, rfl⟩
      obtain ⟨x', y', hab'⟩ : ∃ a b, PS'[i] = ⟨a, b⟩ := ⟨_, _, rfl⟩
      rw [hab] at k2
      rw [hab'] at k3
      have hBw := HA2.out.trans (HW.out.mono HA2.out.size)
      have l0 : wr.cell? ⟨g2, o2 + i * 2, none⟩ = some (.string ⟨x.toArray⟩) := (hBw.cell (p := ⟨g2, _, none⟩) hg2).trans (k2 0 (by omega))
      have l1 : wr.cell? ⟨g2, o2 + i * 2 + 1, none⟩ = some (.string ⟨y.toArray⟩) := (hBw.cell (p := ⟨g2, _, none⟩) hg2).trans (k2 1 (by omega))
      have l2 : wr.cell? ⟨g3, o3 + i * 2, none⟩ = some (.string ⟨x'.toArray⟩) := (hBw.cell (p := ⟨g3, _, none⟩) hg3).trans (k3 0 (by omega))
      have l3 : wr.cell? ⟨g3, o3 + i * 2 + 1, none⟩ = some (.string ⟨y'.toArray⟩) := (hBw.cell (p := ⟨g3, _, none⟩) hg3).trans (k3 1 (by omega))
      have l4 := (blk11 hBK1).2.2.1
      have l5 := (blk11 hBK2).2.2.1
      clear k2 k3 hc2 hc3 HR HR' hBK1 hBK2
      have hn' := ext_some wr
      have m0 : ∀ u : Ext wr, u.w.cell? ⟨g2, o2 + i * 2, none⟩ = some (.string ⟨x.toArray⟩) := fun u => (ext_cell wr u _ _ (by have := hBw.size; omega)).trans l0
      have m1 : ∀ u : Ext wr, u.w.cell? ⟨g2, o2 + i * 2 + 1, none⟩ = some (.string ⟨y.toArray⟩) := fun u => (ext_cell wr u _ _ (by have := hBw.size; omega)).trans l1
      have m2 : ∀ u : Ext wr, u.w.cell? ⟨g3, o3 + i * 2, none⟩ = some (.string ⟨x'.toArray⟩) := fun u => (ext_cell wr u _ _ (by have := hBw.size; omega)).trans l2
      have m3 : ∀ u : Ext wr, u.w.cell? ⟨g3, o3 + i * 2 + 1, none⟩ = some (.string ⟨y'.toArray⟩) := fun u => (ext_cell wr u _ _ (by have := hBw.size; omega)).trans l3
      have m4 : ∀ u : Ext wr, u.w.cell? ⟨w.heap.size, 2, none⟩ = some (.slice (some ⟨g2, o2, none⟩) np cp) := fun u => (ext_cell wr u _ _ (by omega)).trans l4
      have m5 : ∀ u : Ext wr, u.w.cell? ⟨w.heap.size + 1, 2, none⟩ = some (.slice (some ⟨g3, o3, none⟩) np cp') := fun u => (ext_cell wr u _ _ (by omega)).trans l5
      clear l0 l1 l2 l3 l4 l5 hBw
      by_cases he : PS[i] = PS'[i]
      · have HTn := hide (take_eq_next hip hip' HTk.out he)
        rw [hab, hab'] at he
        injection he with he1 he2
        subst he1
        subst he2
        clear hab hab' hip hip'
        go_wp2_with fail
        refine wp_region_ext (by kernel_rfl) (by kernel_rfl) ?_
        repeat (go_big_quiet_step (fail))
        refine wpQuiet_nil ?_
        rintro w5 ⟨⟨_, hb5⟩, rfl⟩
        replace hb5 := hide hb5
        go_wp2
        go_roundw
        case rel => exact ⟨i + 1, by go_num, by omega, HTn, HW.out.trans (hb5.out.mono hsw)⟩
        case measure => simp [intOf]; omega
      · have HF : Hid (false = R) := by
          show false = R
          rw [HRs.out, decide_eq_false (fun e => he (by simp [e])), Bool.false_and]
        have hne := pm_ne hab hab' he
        clear hab hab' hip hip' he HTk
        rcases hne with hne | ⟨rfl, hne⟩
        all_goals
          go_wp2_with fail
          refine wp_region_ext (by kernel_rfl) (by kernel_rfl) ?_
          repeat (go_big_quiet_step (fail))
          refine wpQuiet_nil ?_
          rintro w5 ⟨⟨_, hb5⟩, rfl⟩
          replace hb5 := hide hb5
          clear m0 m1 m2 m3 m4 m5 hn'
          go_wp2
          go_ret
          exact ⟨congrArg (fun r => Ending.returned (.bool r)) HF.out, HA2.out.trans ((HW.out.trans (hb5.out.mono hsw)).mono HA2.out.size)⟩
    · obtain rfl : np = i := by omega
      have e10 := (blk11 hBK1).2.2.2.2.2.2.2.2.2.2
      have HWa := HW
      have HR2 : Hid (R = samL ks ks') := by
        show R = samL ks ks'
        have h0 := HTk.out
        rw [List.take_of_length_le (by rw [HNp.out]; exact Nat.le_refl _), List.take_of_length_le (by rw [HNp'.out]; exact Nat.le_refl _)] at h0
        rw [HRs.out, decide_eq_true h0, Bool.true_and]
      clear hBK1 hBK2 HR HR' HTk HRs
      go_wp2
      clear e10
      obtain ⟨W3, hW3⟩ : ∃ W3, W3 = wr := ⟨_, rfl⟩
      subst hW3
      go_loopw [107] (fun v wx => ∃ (i : Nat), v = .int .i64 i ∧ i ≤ nk ∧ Hid (R = samL (ks.drop i) (ks'.drop i)) ∧ Hid (Below W2.heap.size W2 wx)) (fun v _ => nk - (intOf v).toNat)
      case atStart => exact ⟨0, rfl, Nat.zero_le _, HR2, HWa⟩
      case round =>
        clear HW HWa HR2
        obtain ⟨i, rfl, hin2, HRi, HW⟩ := hrel
        have hsw2 := HW.out.size
        by_cases hlt2 : i < nk
        · have hlt3 : (i : Int) < nk := by omega
          have hik : i < ks.length := by rw [HNk.out]; exact hlt2
          have hik' : i < ks'.length := by rw [HNk'.out]; exact hlt2
          obtain ⟨g2, o2, vs, rfl, _, hg2, hvs, k2, hp2⟩ := HK.out i hik
          obtain ⟨g3, o3, vs', rfl, _, hg3, hvs', k3, hp3⟩ := HK'.out i hik'
          have HCn := hide (HCk.out _ (List.getElem_mem hik))
          have HCn' := hide (HCk'.out _ (List.getElem_mem hik'))
          have HSd := hide (samL_drop ks ks' i hik hik')
          generalize ks[i] = kid at *
          generalize ks'[i] = kid' at *
          obtain ⟨B1, q1, B2, q2, hv1⟩ := hp2.form
          obtain ⟨B3, q3, B4, q4, hv2⟩ := hp3.form
          injection hv1 with hv1
          injection hv2 with hv2
          subst hv1
          subst hv2
          obtain ⟨n1, hn1⟩ : ∃ n, kid.h.params.length = n := ⟨_, rfl⟩
          obtain ⟨n2, hn2⟩ : ∃ n, kid.kids.length = n := ⟨_, rfl⟩
          obtain ⟨H, hH⟩ : ∃ H, kid.h = H := ⟨_, rfl⟩
          obtain ⟨n3, hn3⟩ : ∃ n, kid'.h.params.length = n := ⟨_, rfl⟩
          obtain ⟨n4, hn4⟩ : ∃ n, kid'.kids.length = n := ⟨_, rfl⟩
          obtain ⟨H', hH'⟩ : ∃ H, kid'.h = H := ⟨_, rfl⟩
          rw [hn1, hn2, hH] at k2 hp2
          rw [hn3, hn4, hH'] at k3 hp3
          obtain ⟨sb, hsb⟩ : ∃ sb, samP kid kid' = sb := ⟨_, rfl⟩
          rw [hsb] at HSd
          have hBw := HA2.out.trans (HW.out.mono HA2.out.size)
          have hBs := hBw.size
          have hBK1 := (HW.out.block _ HK1.out.lt).trans HK1.out
          have hBK2 := (HW.out.block _ HK2.out.lt).trans HK2.out
          have l4 := (blk11 hBK1).2.2.2.2.2.2.2.2.2.2
          have l5 := (blk11 hBK2).2.2.2.2.2.2.2.2.2.2
          have hn' := ext_some wr
          have a1 : ∀ u : Ext wr, ∀ j, j < 11 → u.w.cell? ⟨g2, o2 + i * 11 + j, none⟩ = (phA H (.slice B1 n1 q1) (.slice B2 n2 q2))[j]? := fun u j hj => ((ext_cell wr u _ _ (by omega)).trans (hBw.cell (p := ⟨g2, o2 + i * 11 + j, none⟩) hg2)).trans (k2 j hj)
          have a2 : ∀ u : Ext wr, ∀ j, j < 11 → u.w.cell? ⟨g3, o3 + i * 11 + j, none⟩ = (phA H' (.slice B3 n3 q3) (.slice B4 n4 q4))[j]? := fun u j hj => ((ext_cell wr u _ _ (by omega)).trans (hBw.cell (p := ⟨g3, o3 + i * 11 + j, none⟩) hg3)).trans (k3 j hj)
          have s0 : ∀ u : Ext wr, u.w.cell? ⟨g2, o2 + i * 11, none⟩ = some (.string ⟨H.type.toArray⟩) := fun u => a1 u 0 (by omega)
          have s1 : ∀ u : Ext wr, u.w.cell? ⟨g2, o2 + i * 11 + 1, none⟩ = some (.string ⟨H.sub.toArray⟩) := fun u => a1 u 1 (by omega)
          have s2 : ∀ u : Ext wr, u.w.cell? ⟨g2, o2 + i * 11 + 2, none⟩ = some (.slice B1 n1 q1) := fun u => a1 u 2 (by omega)
          have s3 : ∀ u : Ext wr, u.w.cell? ⟨g2, o2 + i * 11 + 3, none⟩ = some (.string ⟨H.id.toArray⟩) := fun u => a1 u 3 (by omega)
          have s4 : ∀ u : Ext wr, u.w.cell? ⟨g2, o2 + i * 11 + 4, none⟩ = some (.string ⟨H.desc.toArray⟩) := fun u => a1 u 4 (by omega)
          have s5 : ∀ u : Ext wr, u.w.cell? ⟨g2, o2 + i * 11 + 5, none⟩ = some (.string ⟨H.enc.toArray⟩) := fun u => a1 u 5 (by omega)
          have s6 : ∀ u : Ext wr, u.w.cell? ⟨g2, o2 + i * 11 + 6, none⟩ = some (.int .i64 H.at') := fun u => a1 u 6 (by omega)
          have s7 : ∀ u : Ext wr, u.w.cell? ⟨g2, o2 + i * 11 + 7, none⟩ = some (.int .i64 H.body) := fun u => a1 u 7 (by omega)
          have s8 : ∀ u : Ext wr, u.w.cell? ⟨g2, o2 + i * 11 + 8, none⟩ = some (.int .i64 H.end') := fun u => a1 u 8 (by omega)
          have s9 : ∀ u : Ext wr, u.w.cell? ⟨g2, o2 + i * 11 + 9, none⟩ = some (.int .i64 H.lines) := fun u => a1 u 9 (by omega)
          have s10 : ∀ u : Ext wr, u.w.cell? ⟨g2, o2 + i * 11 + 10, none⟩ = some (.slice B2 n2 q2) := fun u => a1 u 10 (by omega)
          have t0 : ∀ u : Ext wr, u.w.cell? ⟨g3, o3 + i * 11, none⟩ = some (.string ⟨H'.type.toArray⟩) := fun u => a2 u 0 (by omega)
          have t1 : ∀ u : Ext wr, u.w.cell? ⟨g3, o3 + i * 11 + 1, none⟩ = some (.string ⟨H'.sub.toArray⟩) := fun u => a2 u 1 (by omega)
          have t2 : ∀ u : Ext wr, u.w.cell? ⟨g3, o3 + i * 11 + 2, none⟩ = some (.slice B3 n3 q3) := fun u => a2 u 2 (by omega)
          have t3 : ∀ u : Ext wr, u.w.cell? ⟨g3, o3 + i * 11 + 3, none⟩ = some (.string ⟨H'.id.toArray⟩) := fun u => a2 u 3 (by omega)
          have t4 : ∀ u : Ext wr, u.w.cell? ⟨g3, o3 + i * 11 + 4, none⟩ = some (.string ⟨H'.desc.toArray⟩) := fun u => a2 u 4 (by omega)
          have t5 : ∀ u : Ext wr, u.w.cell? ⟨g3, o3 + i * 11 + 5, none⟩ = some (.string ⟨H'.enc.toArray⟩) := fun u => a2 u 5 (by omega)
          have t6 : ∀ u : Ext wr, u.w.cell? ⟨g3, o3 + i * 11 + 6, none⟩ = some (.int .i64 H'.at') := fun u => a2 u 6 (by omega)
          have t7 : ∀ u : Ext wr, u.w.cell? ⟨g3, o3 + i * 11 + 7, none⟩ = some (.int .i64 H'.body) := fun u => a2 u 7 (by omega)
          have t8 : ∀ u : Ext wr, u.w.cell? ⟨g3, o3 + i * 11 + 8, none⟩ = some (.int .i64 H'.end') := fun u => a2 u 8 (by omega)
          have t9 : ∀ u : Ext wr, u.w.cell? ⟨g3, o3 + i * 11 + 9, none⟩ = some (.int .i64 H'.lines) := fun u => a2 u 9 (by omega)
          have t10 : ∀ u : Ext wr, u.w.cell? ⟨g3, o3 + i * 11 + 10, none⟩ = some (.slice B4 n4 q4) := fun u => a2 u 10 (by omega)
          have m4 : ∀ u : Ext wr, u.w.cell? ⟨w.heap.size, 10, none⟩ = some (.slice (some ⟨g2, o2, none⟩) nk c) := fun u => (ext_cell wr u _ _ (by omega)).trans l4
          have m5 : ∀ u : Ext wr, u.w.cell? ⟨w.heap.size + 1, 10, none⟩ = some (.slice (some ⟨g3, o3, none⟩) nk c') := fun u => (ext_cell wr u _ _ (by omega)).trans l5
          have HC : Hid (∀ u : Ext wr, Calls Tryz.prog 17 #[.agg (phA H (.slice B1 n1 q1) (.slice B2 n2 q2)), .agg (phA H' (.slice B3 n3 q3) (.slice B4 n4 q4))] u.w fun e w' => e = .returned (.bool sb) ∧ Below u.w.heap.size u.w w') := fun u => by
            have := HIH.out kid kid' _ _ u.w (hp2.below (hBw.trans (u.ok.mono hBs))) (hp3.below (hBw.trans (u.ok.mono hBs))) HCn.out HCn'.out
            rw [hsb] at this
            exact this
          unfold phA at HC
          clear a1 a2 l4 l5 hp2 hp3 k2 k3 hvs hvs' hBK1 hBK2 hn1 hn2 hH hn3 hn4 hH' HK HK' hBw hsb
          go_wp2_with fail
          refine wp_region_ext (by kernel_rfl) (by kernel_rfl) ?_
          repeat (go_big_quiet_step ((go_at_call 17; exact ext_call (HC.out _))))
          refine wpQuiet_nil ?_
          rintro w5 ⟨⟨_, hb5⟩, rfl⟩
          replace hb5 := hide hb5
          clear s0 s1 s2 s3 s4 s5 s6 s7 s8 s9 s10 t0 t1 t2 t3 t4 t5 t6 t7 t8 t9 t10 m4 m5 hn'
          cases sb with
          | true =>
            go_wp2
            go_roundw
            case rel => exact ⟨i + 1, by go_num, by omega, (by show R = _; rw [HRi.out, HSd.out, Bool.true_and]), HW.out.trans (hb5.out.mono hsw2)⟩
            case measure => simp [intOf]; omega
          | false =>
            go_wp2
            go_ret
            exact ⟨congrArg (fun r => Ending.returned (.bool r)) (by rw [HRi.out, HSd.out, Bool.false_and]), HA2.out.trans ((HW.out.trans (hb5.out.mono hsw2)).mono HA2.out.size)⟩
        · obtain rfl : nk = i := by omega
          have HT : Hid (R = true) := by
            show R = true
            rw [HRi.out, samL_end ks ks' nk (by rw [HNk.out]; exact Nat.le_refl _) (by rw [HNk'.out]; exact Nat.le_refl _)]
          clear HRi
          go_wp2
          go_ret
          exact ⟨congrArg (fun r => Ending.returned (.bool r)) HT.out.symm, HA2.out.trans (HW.out.mono HA2.out.size)⟩
theorem topD_no {h h' : PH} {nk nk' : Nat} (hd : ¬ topD h h' h.params.length h'.params.length nk nk') : h' = { h with params := h'.params } ∧ h'.params.length = h.params.length ∧ nk' = nk := by
  unfold topD at hd
  simp only [not_or, Decidable.not_not] at hd
  obtain ⟨e1, e2, e3, e4, e5, e6, e7, e8, e9, e10, e11⟩ := hd
  refine ⟨?_, e10.symm, e11.symm⟩
  cases h
  cases h'
  simp_all
theorem rsameV_top (h h' : PH) (np np' nk nk' : Nat) (Ap Ap' A A' : Option Addr) (cp cp' c c' : Nat) (w : World) (b1 : np ≤ 140737488355328) (b2 : np' ≤ 140737488355328) (b3 : nk ≤ 140737488355328) (b4 : nk' ≤ 140737488355328) (hd : topD h h' np np' nk nk') :
    Calls Tryz.prog 17 #[.agg (phA h (.slice Ap np cp) (.slice A nk c)), .agg (phA h' (.slice Ap' np' cp') (.slice A' nk' c'))] w fun e w' => e = .returned (.bool false) ∧ Below w.heap.size w w' := by
  unfold topD at hd
  unfold phA
  cases h with
  | mk t s ps i d e a b n l =>
  cases h' with
  | mk t' s' ps' i' d' e' a' b' n' l' =>
  dsimp only at hd ⊢
  by_cases hx : t ≠ t'
  · exact rsameV_no0 d d' e e' i i' s s' t t' a a' b b' l l' n n' nk nk' np np' Ap Ap' A A' cp cp' c c' w b3 b4 b1 b2 (beq_no hx)
  replace hx : t = t' := Decidable.not_not.1 hx
  subst hx
  by_cases hx : s ≠ s'
  · exact rsameV_no1 d d' e e' i i' s s' t a a' b b' l l' n n' nk nk' np np' Ap Ap' A A' cp cp' c c' w b3 b4 b1 b2 (beq_no hx)
  replace hx : s = s' := Decidable.not_not.1 hx
  subst hx
  by_cases hx : i ≠ i'
  · exact rsameV_no2 d d' e e' i i' s t a a' b b' l l' n n' nk nk' np np' Ap Ap' A A' cp cp' c c' w b3 b4 b1 b2 (beq_no hx)
  replace hx : i = i' := Decidable.not_not.1 hx
  subst hx
  by_cases hx : d ≠ d'
  · exact rsameV_no3 d d' e e' i s t a a' b b' l l' n n' nk nk' np np' Ap Ap' A A' cp cp' c c' w b3 b4 b1 b2 (beq_no hx)
  replace hx : d = d' := Decidable.not_not.1 hx
  subst hx
  by_cases hx : e ≠ e'
  · exact rsameV_no4 d e e' i s t a a' b b' l l' n n' nk nk' np np' Ap Ap' A A' cp cp' c c' w b3 b4 b1 b2 (beq_no hx)
  replace hx : e = e' := Decidable.not_not.1 hx
  subst hx
  by_cases hx : a ≠ a'
  · exact rsameV_no5 d e i s t a a' b b' l l' n n' nk nk' np np' Ap Ap' A A' cp cp' c c' w b3 b4 b1 b2 (beq_no hx) hx
  replace hx : a = a' := Decidable.not_not.1 hx
  subst hx
  by_cases hx : b ≠ b'
  · exact rsameV_no6 d e i s t a b b' l l' n n' nk nk' np np' Ap Ap' A A' cp cp' c c' w b3 b4 b1 b2 (beq_no hx) hx
  replace hx : b = b' := Decidable.not_not.1 hx
  subst hx
  by_cases hx : n ≠ n'
  · exact rsameV_no7 d e i s t a b l l' n n' nk nk' np np' Ap Ap' A A' cp cp' c c' w b3 b4 b1 b2 (beq_no hx) hx
  replace hx : n = n' := Decidable.not_not.1 hx
  subst hx
  by_cases hx : l ≠ l'
  · exact rsameV_no8 d e i s t a b l l' n nk nk' np np' Ap Ap' A A' cp cp' c c' w b3 b4 b1 b2 (beq_no hx) hx
  replace hx : l = l' := Decidable.not_not.1 hx
  subst hx
  by_cases hx : np ≠ np'
  · exact rsameV_no9 d e i s t a b l n nk nk' np np' Ap Ap' A A' cp cp' c c' w b3 b4 b1 b2 (beq_no (fun e => hx (by omega))) hx
  replace hx : np = np' := Decidable.not_not.1 hx
  subst hx
  by_cases hx : nk ≠ nk'
  · exact rsameV_no10 d e i s t a b l n nk nk' np Ap Ap' A A' cp cp' c c' w b3 b4 b1 (beq_no (fun e => hx (by omega))) hx
  replace hx : nk = nk' := Decidable.not_not.1 hx
  subst hx
  exact absurd hd (by simp)
theorem rsameV_any : ∀ n, SaVCall n
  | 0 => fun p p' v v' w hp _ _ _ => hp.elim
  | n + 1 => fun p p' v v' w hp hp' hc hc' => by
    cases p with
    | mk h ks =>
      cases p' with
      | mk h' ks' =>
        obtain ⟨vp, A, c, rfl, hr, hk⟩ := hp
        obtain ⟨vp', A', c', rfl, hr', hk'⟩ := hp'
        obtain ⟨Ap, cp, rfl⟩ := hr.form
        obtain ⟨Ap', cp', rfl⟩ := hr'.form
        by_cases hd : topD h h' h.params.length h'.params.length ks.length ks'.length
        · have e : samP (.mk h ks) (.mk h' ks') = false := by
            rw [samP]
            by_cases hh : h = h'
            · subst hh
              rw [samL_len ks ks' (fun e => by unfold topD at hd; simp [e] at hd), Bool.and_false]
            · rw [decide_eq_false hh, Bool.false_and]
          rw [e]
          exact rsameV_top h h' _ _ _ _ Ap Ap' A A' cp cp' c c' w hc.par.1 hc'.par.1 hc.par.2 hc'.par.2 hd
        · obtain ⟨e1, e2, e3⟩ := topD_no hd
          have e : samP (.mk h ks) (.mk h' ks') = (decide (h.params = h'.params) && samL ks ks') := by
            rw [samP]
            congr 1
            rw [e1]
            by_cases hh : h.params = h'.params
            · rw [decide_eq_true hh, ← hh]; simp
            · rw [decide_eq_false hh]; exact decide_eq_false (fun e => hh (by rw [e]))
          have key := rsameV_eq n (rsameV_any n) h h'.params ks ks' Ap Ap' A A' cp cp' c c' w _ e e2 e3 hr hr' hk hk' hc hc'.kids
          rw [← e2, ← e3] at key
          have e4 : phA h' (.slice Ap' h'.params.length cp') (.slice A' ks'.length c') = phA h (.slice Ap' h'.params.length cp') (.slice A' ks'.length c') := by rw [e1]; rfl
          rw [e4]
          rw [← e2, ← e3]
          exact key
end Go.Proofs.YtegplihhbdmnbaaGreatDoor
