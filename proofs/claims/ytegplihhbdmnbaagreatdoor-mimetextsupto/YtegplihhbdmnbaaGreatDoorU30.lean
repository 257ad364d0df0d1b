/- The document's Same, of one part in two places. -/
import Derived.Test.YtegplihhbdmnbaaGreatDoorU29
set_option linter.unusedSimpArgs false
set_option linter.unusedVariables false
namespace Go.Proofs.YtegplihhbdmnbaaGreatDoor
open Go.RowKit Go.Shelf
/-- All lists of a part are of a length that can be counted. -/
inductive Cnt : Part → Prop
  | mk (h : PH) (ks : List Part) : h.params.length ≤ 140737488355328 → ks.length ≤ 140737488355328 → (∀ k ∈ ks, Cnt k) → Cnt (.mk h ks)
theorem Cnt.kids {h : PH} {ks : List Part} (k : Cnt (.mk h ks)) : ∀ x ∈ ks, Cnt x := by
  cases k with
  | mk _ _ _ _ c => exact c
theorem Cnt.par {h : PH} {ks : List Part} (k : Cnt (.mk h ks)) : h.params.length ≤ 140737488355328 ∧ ks.length ≤ 140737488355328 := by
  cases k with
  | mk _ _ a b _ => exact ⟨a, b⟩
def SaCall (n : Nat) : Prop := ∀ (p : Part) (v v' : Value) (w : World), PA n (fun g => 0 ≤ g) w v p → PA n (fun g => 0 ≤ g) w v' p → Cnt p →
  Calls Tryz.prog 17 #[v, v'] w fun e w' => e = .returned (.bool true) ∧ Below w.heap.size w w'
/-- A kid in a row. -/
def KidAt (n : Nat) (w : World) (A : Option Addr) (ks : List Part) : Prop := ∀ i (hi : i < ks.length), ∃ g o vs, A = some ⟨g, o, none⟩ ∧ 0 ≤ g ∧ g < w.heap.size ∧ vs.size = 11 ∧ (∀ j, j < 11 → w.cell? ⟨g, o + i * 11 + j, none⟩ = vs[j]?) ∧ PA n (fun g => 0 ≤ g) w (.agg vs) ks[i]
set_option maxRecDepth 20000 in
set_option maxHeartbeats 4000000 in
theorem rsame_step (n : Nat) (IH : SaCall n) (h : PH) (ks : List Part) (Ap Ap' A A' : Option Addr) (cp cp' c c' : Nat) (w : World)
    (hr : ReadS (fun g => 0 ≤ g) Pm.cs 2 w (.slice Ap h.params.length cp) h.params) (hr' : ReadS (fun g => 0 ≤ g) Pm.cs 2 w (.slice Ap' h.params.length cp') h.params) (hk : KidAt n w A ks) (hk' : KidAt n w A' ks) (hc : Cnt (.mk h ks)) :
    Calls Tryz.prog 17 #[.agg (phA h (.slice Ap h.params.length cp) (.slice A ks.length c)), .agg (phA h (.slice Ap' h.params.length cp') (.slice A' ks.length c'))] w fun e w' => e = .returned (.bool true) ∧ Below w.heap.size w w' := by
  obtain ⟨hb1, hb2⟩ := hc.par
  have HCk := hide hc.kids
  have HR := hide hr.reads
  have HR' := hide hr'.reads
  have HK := hide hk
  have HK' := hide hk'
  have HIH := hide IH
  clear hr hr' hk hk' hc IH
  obtain ⟨np, hnp⟩ : ∃ np, h.params.length = np := ⟨_, rfl⟩
  have HNp := hide hnp
  obtain ⟨nk, hnk⟩ : ∃ nk, ks.length = nk := ⟨_, rfl⟩
  have HNk := hide hnk
  rw [hnp] at HR HR' hb1 ⊢
  rw [hnk] at hb2 ⊢
  obtain ⟨PS, hPS⟩ : ∃ PS, h.params = PS := ⟨_, rfl⟩
  rw [hPS] at HR HR' HNp
  clear hnp hnk hPS
  have hA1 := (Below.refl w.heap.size w).alloc (Nat.le_refl _) (.cells (phA h (.slice Ap np cp) (.slice A nk c)) 40)
  have hA2 := hA1.alloc hA1.size (.cells (phA h (.slice Ap' np cp') (.slice A' nk c')) 40)
  have hK1 := Blk.new w (phA h (.slice Ap np cp) (.slice A nk c)) 40
  have hK1' := hK1.alloc (.cells (phA h (.slice Ap' np cp') (.slice A' nk c')) 40)
  have hK2 := Blk.new (w.alloc (.cells (phA h (.slice Ap np cp) (.slice A nk c)) 40)) (phA h (.slice Ap' np cp') (.slice A' nk c')) 40
  have hz : (w.alloc (.cells (phA h (.slice Ap np cp) (.slice A nk c)) 40)).heap.size = w.heap.size + 1 := World.size_alloc _ _
  rw [hz] at hK2
  obtain ⟨W2, hW2⟩ : ∃ W2, (w.alloc (.cells (phA h (.slice Ap np cp) (.slice A nk c)) 40)).alloc (.cells (phA h (.slice Ap' np cp') (.slice A' nk c')) 40) = W2 := ⟨_, rfl⟩
  rw [hW2] at hA2 hK1' hK2
  obtain ⟨c0, c1, c2, c3, c4, c5, c6, c7, c8, c9, c10⟩ := blk11 hK1'
  obtain ⟨d0, d1, d2, d3, d4, d5, d6, d7, d8, d9, d10⟩ := blk11 hK2
  have HK1 := hide hK1'
  have HK2 := hide hK2
  have HA2 := hide hA2
  have hs2 : w.heap.size + 1 < W2.heap.size := hK2.lt
  clear hA1 hA2 hK1 hK1' hK2 hz
  unfold phA at hW2
  go_enter Tryz.func17, Tryz.ntmps17
  unfold phA
  go_wp2
  clear c0 c1 c2 c3 c4 c5 c6 c7 c8 c9 c10 d0 d1 d2 d3 d4 d5 d6 d7 d8 d9 d10 hW2
  go_loopw [89] (fun v wx => ∃ (i : Nat), v = .int .i64 i ∧ i ≤ np ∧ Hid (Below W2.heap.size W2 wx)) (fun v _ => np - (intOf v).toNat)
  case atStart => exact ⟨0, rfl, Nat.zero_le _, Below.refl _ _⟩
  case round =>
    obtain ⟨i, rfl, hin, HW⟩ := hrel
    have hsw := HW.out.size
    have hBK1 := (HW.out.block _ HK1.out.lt).trans HK1.out
    have hBK2 := (HW.out.block _ HK2.out.lt).trans HK2.out
    by_cases hlt : i < np
    · have hlt' : (i : Int) < np := by omega
      have hip : i < PS.length := by rw [HNp.out]; exact hlt
      obtain ⟨B, b, e2, hc2⟩ := HR.out
      obtain ⟨g2, o2, rfl, hg2, k2⟩ := hc2 i hip
      obtain ⟨B', b', e3, hc3⟩ := HR'.out
      obtain ⟨g3, o3, rfl, hg3, k3⟩ := hc3 i hip
      injection e2 with e2a e2b e2c
      injection e3 with e3a e3b e3c
      subst e2a
      subst e3a
      subst e2c
      subst e3c
      clear e2b e3b
      obtain ⟨x, y, hab⟩ : ∃ a b, PS[i] = ⟨a, b⟩ := ⟨_, _, rfl⟩
      rw [hab] at k2 k3
      have hBw := HA2.out.trans (HW.out.mono HA2.out.size)
      have l0 : wr.cell? ⟨g2, o2 + i * 2, none⟩ = some (.string ⟨x.toArray⟩) := (hBw.cell (p := ⟨g2, _, none⟩) hg2).trans (k2 0 (by omega))
      have l1 : wr.cell? ⟨g2, o2 + i * 2 + 1, none⟩ = some (.string ⟨y.toArray⟩) := (hBw.cell (p := ⟨g2, _, none⟩) hg2).trans (k2 1 (by omega))
      have l2 : wr.cell? ⟨g3, o3 + i * 2, none⟩ = some (.string ⟨x.toArray⟩) := (hBw.cell (p := ⟨g3, _, none⟩) hg3).trans (k3 0 (by omega))
      have l3 : wr.cell? ⟨g3, o3 + i * 2 + 1, none⟩ = some (.string ⟨y.toArray⟩) := (hBw.cell (p := ⟨g3, _, none⟩) hg3).trans (k3 1 (by omega))
      have l4 := (blk11 hBK1).2.2.1
      have l5 := (blk11 hBK2).2.2.1
      clear k2 k3 hc2 hc3 hab HR HR' hip hBK1 hBK2
      have hn' := ext_some wr
      have m0 : ∀ u : Ext wr, u.w.cell? ⟨g2, o2 + i * 2, none⟩ = some (.string ⟨x.toArray⟩) := fun u => (ext_cell wr u _ _ (by have := hBw.size; omega)).trans l0
      have m1 : ∀ u : Ext wr, u.w.cell? ⟨g2, o2 + i * 2 + 1, none⟩ = some (.string ⟨y.toArray⟩) := fun u => (ext_cell wr u _ _ (by have := hBw.size; omega)).trans l1
      have m2 : ∀ u : Ext wr, u.w.cell? ⟨g3, o3 + i * 2, none⟩ = some (.string ⟨x.toArray⟩) := fun u => (ext_cell wr u _ _ (by have := hBw.size; omega)).trans l2
      have m3 : ∀ u : Ext wr, u.w.cell? ⟨g3, o3 + i * 2 + 1, none⟩ = some (.string ⟨y.toArray⟩) := fun u => (ext_cell wr u _ _ (by have := hBw.size; omega)).trans l3
      have m4 : ∀ u : Ext wr, u.w.cell? ⟨w.heap.size, 2, none⟩ = some (.slice (some ⟨g2, o2, none⟩) np cp) := fun u => (ext_cell wr u _ _ (by omega)).trans l4
      have m5 : ∀ u : Ext wr, u.w.cell? ⟨w.heap.size + 1, 2, none⟩ = some (.slice (some ⟨g3, o3, none⟩) np cp') := fun u => (ext_cell wr u _ _ (by omega)).trans l5
      clear l0 l1 l2 l3 l4 l5 hBw
      go_wp2_with fail
      refine wp_region_ext (by kernel_rfl) (by kernel_rfl) ?_
      repeat (go_big_quiet_step (fail))
      refine wpQuiet_nil ?_
      rintro w5 ⟨⟨_, hb5⟩, rfl⟩
      replace hb5 := hide hb5
      go_wp2
      go_roundw
      case rel => exact ⟨i + 1, by go_num, by omega, HW.out.trans (hb5.out.mono hsw)⟩
      case measure => simp [intOf]; omega
    · obtain rfl : np = i := by omega
      have e10 := (blk11 hBK1).2.2.2.2.2.2.2.2.2.2
      have HWa := HW
      clear hBK1 hBK2 HR HR'
      go_wp2
      clear e10
      obtain ⟨W3, hW3⟩ : ∃ W3, W3 = wr := ⟨_, rfl⟩
      subst hW3
      go_loopw [107] (fun v wx => ∃ (i : Nat), v = .int .i64 i ∧ i ≤ nk ∧ Hid (Below W2.heap.size W2 wx)) (fun v _ => nk - (intOf v).toNat)
      case atStart => exact ⟨0, rfl, Nat.zero_le _, HWa⟩
      case round =>
        clear HW HWa
        obtain ⟨i, rfl, hin2, HW⟩ := hrel
        have hsw2 := HW.out.size
        by_cases hlt2 : i < nk
        · have hlt3 : (i : Int) < nk := by omega
          have hik : i < ks.length := by rw [HNk.out]; exact hlt2
          obtain ⟨g2, o2, vs, rfl, _, hg2, hvs, k2, hp2⟩ := HK.out i hik
          obtain ⟨g3, o3, vs', rfl, _, hg3, hvs', k3, hp3⟩ := HK'.out i hik
          have HCn := hide (HCk.out _ (List.getElem_mem hik))
          generalize ks[i] = kid at *
          obtain ⟨B1, q1, B2, q2, hv1⟩ := hp2.form
          obtain ⟨B3, q3, B4, q4, hv2⟩ := hp3.form
          injection hv1 with hv1
          injection hv2 with hv2
          subst hv1
          subst hv2
          obtain ⟨n1, hn1⟩ : ∃ n, kid.h.params.length = n := ⟨_, rfl⟩
          obtain ⟨n2, hn2⟩ : ∃ n, kid.kids.length = n := ⟨_, rfl⟩
          obtain ⟨H, hH⟩ : ∃ H, kid.h = H := ⟨_, rfl⟩
          rw [hn1, hn2, hH] at k2 k3 hp2 hp3
          have hBw := HA2.out.trans (HW.out.mono HA2.out.size)
          have hBs := hBw.size
          have hBK1 := (HW.out.block _ HK1.out.lt).trans HK1.out
          have hBK2 := (HW.out.block _ HK2.out.lt).trans HK2.out
          have l4 := (blk11 hBK1).2.2.2.2.2.2.2.2.2.2
          have l5 := (blk11 hBK2).2.2.2.2.2.2.2.2.2.2
          have hn' := ext_some wr
          have a1 : ∀ u : Ext wr, ∀ j, j < 11 → u.w.cell? ⟨g2, o2 + i * 11 + j, none⟩ = (phA H (.slice B1 n1 q1) (.slice B2 n2 q2))[j]? := fun u j hj => ((ext_cell wr u _ _ (by omega)).trans (hBw.cell (p := ⟨g2, o2 + i * 11 + j, none⟩) hg2)).trans (k2 j hj)
          have a2 : ∀ u : Ext wr, ∀ j, j < 11 → u.w.cell? ⟨g3, o3 + i * 11 + j, none⟩ = (phA H (.slice B3 n1 q3) (.slice B4 n2 q4))[j]? := fun u j hj => ((ext_cell wr u _ _ (by omega)).trans (hBw.cell (p := ⟨g3, o3 + i * 11 + j, none⟩) hg3)).trans (k3 j hj)
          have s0 : ∀ u : Ext wr, u.w.cell? ⟨g2, o2 + i * 11, none⟩ = some (.string ⟨H.type.toArray⟩) := fun u => a1 u 0 (by omega)
          have s1 : ∀ u : Ext wr, u.w.cell? ⟨g2, o2 + i * 11 + 1, none⟩ = some (.string ⟨H.sub.toArray⟩) := fun u => a1 u 1 (by omega)
          have s2 : ∀ u : Ext wr, u.w.cell? ⟨g2, o2 + i * 11 + 2, none⟩ = some (.slice B1 n1 q1) := fun u => a1 u 2 (by omega)
          have s3 : ∀ u : Ext wr, u.w.cell? ⟨g2, o2 + i * 11 + 3, none⟩ = some (.string ⟨H.id.toArray⟩) := fun u => a1 u 3 (by omega)
          have s4 : ∀ u : Ext wr, u.w.cell? ⟨g2, o2 + i * 11 + 4, none⟩ = some (.string ⟨H.desc.toArray⟩) := fun u => a1 u 4 (by omega)
          have s5 : ∀ u : Ext wr, u.w.cell? ⟨g2, o2 + i * 11 + 5, none⟩ = some (.string ⟨H.enc.toArray⟩) := fun u => a1 u 5 (by omega)
          have s6 : ∀ u : Ext wr, u.w.cell? ⟨g2, o2 + i * 11 + 6, none⟩ = some (.int .i64 H.at') := fun u => a1 u 6 (by omega)
          have s7 : ∀ u : Ext wr, u.w.cell? ⟨g2, o2 + i * 11 + 7, none⟩ = some (.int .i64 H.body) := fun u => a1 u 7 (by omega)
          have s8 : ∀ u : Ext wr, u.w.cell? ⟨g2, o2 + i * 11 + 8, none⟩ = some (.int .i64 H.end') := fun u => a1 u 8 (by omega)
          have s9 : ∀ u : Ext wr, u.w.cell? ⟨g2, o2 + i * 11 + 9, none⟩ = some (.int .i64 H.lines) := fun u => a1 u 9 (by omega)
          have s10 : ∀ u : Ext wr, u.w.cell? ⟨g2, o2 + i * 11 + 10, none⟩ = some (.slice B2 n2 q2) := fun u => a1 u 10 (by omega)
          have t0 : ∀ u : Ext wr, u.w.cell? ⟨g3, o3 + i * 11, none⟩ = some (.string ⟨H.type.toArray⟩) := fun u => a2 u 0 (by omega)
          have t1 : ∀ u : Ext wr, u.w.cell? ⟨g3, o3 + i * 11 + 1, none⟩ = some (.string ⟨H.sub.toArray⟩) := fun u => a2 u 1 (by omega)
          have t2 : ∀ u : Ext wr, u.w.cell? ⟨g3, o3 + i * 11 + 2, none⟩ = some (.slice B3 n1 q3) := fun u => a2 u 2 (by omega)
          have t3 : ∀ u : Ext wr, u.w.cell? ⟨g3, o3 + i * 11 + 3, none⟩ = some (.string ⟨H.id.toArray⟩) := fun u => a2 u 3 (by omega)
          have t4 : ∀ u : Ext wr, u.w.cell? ⟨g3, o3 + i * 11 + 4, none⟩ = some (.string ⟨H.desc.toArray⟩) := fun u => a2 u 4 (by omega)
          have t5 : ∀ u : Ext wr, u.w.cell? ⟨g3, o3 + i * 11 + 5, none⟩ = some (.string ⟨H.enc.toArray⟩) := fun u => a2 u 5 (by omega)
          have t6 : ∀ u : Ext wr, u.w.cell? ⟨g3, o3 + i * 11 + 6, none⟩ = some (.int .i64 H.at') := fun u => a2 u 6 (by omega)
          have t7 : ∀ u : Ext wr, u.w.cell? ⟨g3, o3 + i * 11 + 7, none⟩ = some (.int .i64 H.body) := fun u => a2 u 7 (by omega)
          have t8 : ∀ u : Ext wr, u.w.cell? ⟨g3, o3 + i * 11 + 8, none⟩ = some (.int .i64 H.end') := fun u => a2 u 8 (by omega)
          have t9 : ∀ u : Ext wr, u.w.cell? ⟨g3, o3 + i * 11 + 9, none⟩ = some (.int .i64 H.lines) := fun u => a2 u 9 (by omega)
          have t10 : ∀ u : Ext wr, u.w.cell? ⟨g3, o3 + i * 11 + 10, none⟩ = some (.slice B4 n2 q4) := fun u => a2 u 10 (by omega)
          have m4 : ∀ u : Ext wr, u.w.cell? ⟨w.heap.size, 10, none⟩ = some (.slice (some ⟨g2, o2, none⟩) nk c) := fun u => (ext_cell wr u _ _ (by omega)).trans l4
          have m5 : ∀ u : Ext wr, u.w.cell? ⟨w.heap.size + 1, 10, none⟩ = some (.slice (some ⟨g3, o3, none⟩) nk c') := fun u => (ext_cell wr u _ _ (by omega)).trans l5
          have HC : Hid (∀ u : Ext wr, Calls Tryz.prog 17 #[.agg (phA H (.slice B1 n1 q1) (.slice B2 n2 q2)), .agg (phA H (.slice B3 n1 q3) (.slice B4 n2 q4))] u.w fun e w' => e = .returned (.bool true) ∧ Below u.w.heap.size u.w w') := fun u => HIH.out kid _ _ u.w (hp2.below (hBw.trans (u.ok.mono hBs))) (hp3.below (hBw.trans (u.ok.mono hBs))) HCn.out
          unfold phA at HC
          clear a1 a2 l4 l5 hp2 hp3 k2 k3 hvs hvs' hBK1 hBK2 hn1 hn2 hH HK HK' hBw
          go_wp2_with fail
          refine wp_region_ext (by kernel_rfl) (by kernel_rfl) ?_
          repeat (go_big_quiet_step ((go_at_call 17; exact ext_call (HC.out _))))
          refine wpQuiet_nil ?_
          rintro w5 ⟨⟨_, hb5⟩, rfl⟩
          replace hb5 := hide hb5
          clear s0 s1 s2 s3 s4 s5 s6 s7 s8 s9 s10 t0 t1 t2 t3 t4 t5 t6 t7 t8 t9 t10 m4 m5 hn'
          go_wp2
          go_roundw
          case rel => exact ⟨i + 1, by go_num, by omega, HW.out.trans (hb5.out.mono hsw2)⟩
          case measure => simp [intOf]; omega
        · obtain rfl : nk = i := by omega
          go_wp2
          go_ret
          exact ⟨rfl, HA2.out.trans (HW.out.mono HA2.out.size)⟩
theorem rsame_yes : ∀ n, SaCall n
  | 0 => fun p v v' w hp _ _ => hp.elim
  | n + 1 => fun p v v' w hp hp' hc => by
    cases p with
    | mk h ks =>
      obtain ⟨vp, A, c, rfl, hr, hk⟩ := hp
      obtain ⟨vp', A', c', rfl, hr', hk'⟩ := hp'
      obtain ⟨Ap, cp, rfl⟩ := hr.form
      obtain ⟨Ap', cp', rfl⟩ := hr'.form
      exact rsame_step n (rsame_yes n) h ks Ap Ap' A A' cp cp' c c' w hr hr' hk hk' hc
end Go.Proofs.YtegplihhbdmnbaaGreatDoor
