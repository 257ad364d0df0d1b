/- The document's Same, of one part in two places. -/
/- How long the text of a message's parts is. -/
import Derived.Test.YtfebohfmpikoeaaGreatDoorU30
import Derived.Test.YtfebohfmpikoeaaGreatDoorU21
import Derived.Test.YtfebohfmpikoeaaGreatDoorU26
section
set_option linter.unusedSimpArgs false
set_option linter.unusedVariables false
namespace Go.Proofs.YtfebohfmpikoeaaGreatDoor
open Go.RowKit Go.Shelf
/-- All lists of a part are of a length that can be counted. -/
inductive Cnt : Part → Prop
  | mk (h : PH) (ks : List Part) : h.params.length ≤ 1000000000 → ks.length ≤ 1000000000 → (∀ k ∈ ks, Cnt k) → Cnt (.mk h ks)
theorem Cnt.kids {h : PH} {ks : List Part} (k : Cnt (.mk h ks)) : ∀ x ∈ ks, Cnt x := by
  cases k with
  | mk _ _ _ _ c => exact c
theorem Cnt.par {h : PH} {ks : List Part} (k : Cnt (.mk h ks)) : h.params.length ≤ 1000000000 ∧ ks.length ≤ 1000000000 := by
  cases k with
  | mk _ _ a b _ => exact ⟨a, b⟩
def SaCall (n : Nat) : Prop := ∀ (p : Part) (v v' : Value) (w : World), PA n (fun g => 0 ≤ g) w v p → PA n (fun g => 0 ≤ g) w v' p → Cnt p →
  Calls Tryz.prog 15 #[v, v'] w fun e w' => e = .returned (.bool true) ∧ Below w.heap.size w w'
/-- A kid in a row. -/
def KidAt (n : Nat) (w : World) (A : Option Addr) (ks : List Part) : Prop := ∀ i (hi : i < ks.length), ∃ g o vs, A = some ⟨g, o, none⟩ ∧ 0 ≤ g ∧ g < w.heap.size ∧ vs.size = 11 ∧ (∀ j, j < 11 → w.cell? ⟨g, o + i * 11 + j, none⟩ = vs[j]?) ∧ PA n (fun g => 0 ≤ g) w (.agg vs) ks[i]
set_option maxRecDepth 20000 in
set_option maxHeartbeats 4000000 in
theorem rsame_step (n : Nat) (IH : SaCall n) (h : PH) (ks : List Part) (Ap Ap' A A' : Option Addr) (cp cp' c c' : Nat) (w : World)
    (hr : ReadS (fun g => 0 ≤ g) Pm.cs 2 w (.slice Ap h.params.length cp) h.params) (hr' : ReadS (fun g => 0 ≤ g) Pm.cs 2 w (.slice Ap' h.params.length cp') h.params) (hk : KidAt n w A ks) (hk' : KidAt n w A' ks) (hc : Cnt (.mk h ks)) :
    Calls Tryz.prog 15 #[.agg (phA h (.slice Ap h.params.length cp) (.slice A ks.length c)), .agg (phA h (.slice Ap' h.params.length cp') (.slice A' ks.length c'))] w fun e w' => e = .returned (.bool true) ∧ Below w.heap.size w w' := by
  obtain ⟨hb1, hb2⟩ := hc.par
  have HCk := hide hc.kids
  have HR := hide hr.reads
  have HR' := hide hr'.reads
  have HK := hide hk
  have HK' := hide hk'
  have HIH := hide IH
  clear hr hr' hk hk' hc IH
  obtain ⟨np, hnp⟩ : ∃ np, h.params.length = np := ⟨_, rfl⟩
  have HNp := hide hnp
  obtain ⟨nk, hnk⟩ : ∃ nk, ks.length = nk := ⟨_, rfl⟩
  have HNk := hide hnk
  rw [hnp] at HR HR' hb1 ⊢
  rw [hnk] at hb2 ⊢
  obtain ⟨PS, hPS⟩ : ∃ PS, h.params = PS := ⟨_, rfl⟩
  rw [hPS] at HR HR' HNp
  clear hnp hnk hPS
  have hA1 := (Below.refl w.heap.size w).alloc (Nat.le_refl _) (.cells (phA h (.slice Ap np cp) (.slice A nk c)) 36)
  have hA2 := hA1.alloc hA1.size (.cells (phA h (.slice Ap' np cp') (.slice A' nk c')) 36)
  have hK1 := Blk.new w (phA h (.slice Ap np cp) (.slice A nk c)) 36
  have hK1' := hK1.alloc (.cells (phA h (.slice Ap' np cp') (.slice A' nk c')) 36)
  have hK2 := Blk.new (w.alloc (.cells (phA h (.slice Ap np cp) (.slice A nk c)) 36)) (phA h (.slice Ap' np cp') (.slice A' nk c')) 36
  have hz : (w.alloc (.cells (phA h (.slice Ap np cp) (.slice A nk c)) 36)).heap.size = w.heap.size + 1 := World.size_alloc _ _
  rw [hz] at hK2
  obtain ⟨W2, hW2⟩ : ∃ W2, (w.alloc (.cells (phA h (.slice Ap np cp) (.slice A nk c)) 36)).alloc (.cells (phA h (.slice Ap' np cp') (.slice A' nk c')) 36) = W2 := ⟨_, rfl⟩
  rw [hW2] at hA2 hK1' hK2
  obtain ⟨c0, c1, c2, c3, c4, c5, c6, c7, c8, c9, c10⟩ := blk11 hK1'
  obtain ⟨d0, d1, d2, d3, d4, d5, d6, d7, d8, d9, d10⟩ := blk11 hK2
  have HK1 := hide hK1'
  have HK2 := hide hK2
  have HA2 := hide hA2
  have hs2 : w.heap.size + 1 < W2.heap.size := hK2.lt
  clear hA1 hA2 hK1 hK1' hK2 hz
  unfold phA at hW2
  go_enter Tryz.func15, Tryz.ntmps15
  unfold phA
  go_wp2
  clear c0 c1 c2 c3 c4 c5 c6 c7 c8 c9 c10 d0 d1 d2 d3 d4 d5 d6 d7 d8 d9 d10 hW2
  go_loopw [89] (fun v wx => ∃ (i : Nat), v = .int .i64 i ∧ i ≤ np ∧ Hid (Below W2.heap.size W2 wx)) (fun v _ => np - (intOf v).toNat)
  case atStart => exact ⟨0, rfl, Nat.zero_le _, Below.refl _ _⟩
  case round =>
    obtain ⟨i, rfl, hin, HW⟩ := hrel
    have hsw := HW.out.size
    have hBK1 := (HW.out.block _ HK1.out.lt).trans HK1.out
    have hBK2 := (HW.out.block _ HK2.out.lt).trans HK2.out
    by_cases hlt : i < np
    · have hlt' : (i : Int) < np := by omega
      have hip : i < PS.length := by rw [HNp.out]; exact hlt
      obtain ⟨B, b, e2, hc2⟩ := HR.out
      obtain ⟨g2, o2, rfl, hg2, k2⟩ := hc2 i hip
      obtain ⟨B', b', e3, hc3⟩ := HR'.out
      obtain ⟨g3, o3, rfl, hg3, k3⟩ := hc3 i hip
      injection e2 with e2a e2b e2c
      injection e3 with e3a e3b e3c
      subst e2a
      subst e3a
      subst e2c
      subst e3c
      clear e2b e3b
      obtain ⟨x, y, hab⟩ : ∃ a b, PS[i] = ⟨a, b⟩ := ⟨_, _, rfl⟩
      rw [hab] at k2 k3
      have hBw := HA2.out.trans (HW.out.mono HA2.out.size)
      have l0 : wr.cell? ⟨g2, o2 + i * 2, none⟩ = some (.string ⟨x.toArray⟩) := (hBw.cell (p := ⟨g2, _, none⟩) hg2).trans (k2 0 (by omega))
      have l1 : wr.cell? ⟨g2, o2 + i * 2 + 1, none⟩ = some (.string ⟨y.toArray⟩) := (hBw.cell (p := ⟨g2, _, none⟩) hg2).trans (k2 1 (by omega))
      have l2 : wr.cell? ⟨g3, o3 + i * 2, none⟩ = some (.string ⟨x.toArray⟩) := (hBw.cell (p := ⟨g3, _, none⟩) hg3).trans (k3 0 (by omega))
      have l3 : wr.cell? ⟨g3, o3 + i * 2 + 1, none⟩ = some (.string ⟨y.toArray⟩) := (hBw.cell (p := ⟨g3, _, none⟩) hg3).trans (k3 1 (by omega))
      have l4 := (blk11 hBK1).2.2.1
      have l5 := (blk11 hBK2).2.2.1
      clear k2 k3 hc2 hc3 hab HR HR' hip hBK1 hBK2
      have hn' := ext_some wr
      have m0 : ∀ u : Ext wr, u.w.cell? ⟨g2, o2 + i * 2, none⟩ = some (.string ⟨x.toArray⟩) := fun u => (ext_cell wr u _ _ (by have := hBw.size; omega)).trans l0
      have m1 : ∀ u : Ext wr, u.w.cell? ⟨g2, o2 + i * 2 + 1, none⟩ = some (.string ⟨y.toArray⟩) := fun u => (ext_cell wr u _ _ (by have := hBw.size; omega)).trans l1
      have m2 : ∀ u : Ext wr, u.w.cell? ⟨g3, o3 + i * 2, none⟩ = some (.string ⟨x.toArray⟩) := fun u => (ext_cell wr u _ _ (by have := hBw.size; omega)).trans l2
      have m3 : ∀ u : Ext wr, u.w.cell? ⟨g3, o3 + i * 2 + 1, none⟩ = some (.string ⟨y.toArray⟩) := fun u => (ext_cell wr u _ _ (by have := hBw.size; omega)).trans l3
      have m4 : ∀ u : Ext wr, u.w.cell? ⟨w.heap.size, 2, none⟩ = some (.slice (some ⟨g2, o2, none⟩) np cp) := fun u => (ext_cell wr u _ _ (by omega)).trans l4
      have m5 : ∀ u : Ext wr, u.w.cell? ⟨w.heap.size + 1, 2, none⟩ = some (.slice (some ⟨g3, o3, none⟩) np cp') := fun u => (ext_cell wr u _ _ (by omega)).trans l5
      clear l0 l1 l2 l3 l4 l5 hBw
      go_wp2_with fail
      refine wp_region_ext (by kernel_rfl) (by kernel_rfl) ?_
      repeat (go_big_quiet_step (fail))
      refine wpQuiet_nil ?_
      rintro w5 ⟨⟨_, hb5⟩, rfl⟩
      replace hb5 := hide hb5
      go_wp2
      go_roundw
      case rel => exact ⟨i + 1, by go_num, by omega, HW.out.trans (hb5.out.mono hsw)⟩
      case measure => simp [intOf]; omega
    · obtain rfl : np = i := by omega
      have e10 := (blk11 hBK1).2.2.2.2.2.2.2.2.2.2
      have HWa := HW
      clear hBK1 hBK2 HR HR'
      go_wp2
      clear e10
      obtain ⟨W3, hW3⟩ : ∃ W3, W3 = wr := ⟨_, rfl⟩
      subst hW3
      go_loopw [107] (fun v wx => ∃ (i : Nat), v = .int .i64 i ∧ i ≤ nk ∧ Hid (Below W2.heap.size W2 wx)) (fun v _ => nk - (intOf v).toNat)
      case atStart => exact ⟨0, rfl, Nat.zero_le _, HWa⟩
      case round =>
        clear HW HWa
        obtain ⟨i, rfl, hin2, HW⟩ := hrel
        have hsw2 := HW.out.size
        by_cases hlt2 : i < nk
        · have hlt3 : (i : Int) < nk := by omega
          have hik : i < ks.length := by rw [HNk.out]; exact hlt2
          obtain ⟨g2, o2, vs, rfl, _, hg2, hvs, k2, hp2⟩ := HK.out i hik
          obtain ⟨g3, o3, vs', rfl, _, hg3, hvs', k3, hp3⟩ := HK'.out i hik
          have HCn := hide (HCk.out _ (List.getElem_mem hik))
          generalize ks[i] = kid at *
          obtain ⟨B1, q1, B2, q2, hv1⟩ := hp2.form
          obtain ⟨B3, q3, B4, q4, hv2⟩ := hp3.form
          injection hv1 with hv1
          injection hv2 with hv2
          subst hv1
          subst hv2
          obtain ⟨n1, hn1⟩ : ∃ n, kid.h.params.length = n := ⟨_, rfl⟩
          obtain ⟨n2, hn2⟩ : ∃ n, kid.kids.length = n := ⟨_, rfl⟩
          obtain ⟨H, hH⟩ : ∃ H, kid.h = H := ⟨_, rfl⟩
          rw [hn1, hn2, hH] at k2 k3 hp2 hp3
          have hBw := HA2.out.trans (HW.out.mono HA2.out.size)
          have hBs := hBw.size
          have hBK1 := (HW.out.block _ HK1.out.lt).trans HK1.out
          have hBK2 := (HW.out.block _ HK2.out.lt).trans HK2.out
          have l4 := (blk11 hBK1).2.2.2.2.2.2.2.2.2.2
          have l5 := (blk11 hBK2).2.2.2.2.2.2.2.2.2.2
          have hn' := ext_some wr
          have a1 : ∀ u : Ext wr, ∀ j, j < 11 → u.w.cell? ⟨g2, o2 + i * 11 + j, none⟩ = (phA H (.slice B1 n1 q1) (.slice B2 n2 q2))[j]? := fun u j hj => ((ext_cell wr u _ _ (by omega)).trans (hBw.cell (p := ⟨g2, o2 + i * 11 + j, none⟩) hg2)).trans (k2 j hj)
          have a2 : ∀ u : Ext wr, ∀ j, j < 11 → u.w.cell? ⟨g3, o3 + i * 11 + j, none⟩ = (phA H (.slice B3 n1 q3) (.slice B4 n2 q4))[j]? := fun u j hj => ((ext_cell wr u _ _ (by omega)).trans (hBw.cell (p := ⟨g3, o3 + i * 11 + j, none⟩) hg3)).trans (k3 j hj)
          have s0 : ∀ u : Ext wr, u.w.cell? ⟨g2, o2 + i * 11, none⟩ = some (.string ⟨H.type.toArray⟩) := fun u => a1 u 0 (by omega)
          have s1 : ∀ u : Ext wr, u.w.cell? ⟨g2, o2 + i * 11 + 1, none⟩ = some (.string ⟨H.sub.toArray⟩) := fun u => a1 u 1 (by omega)
          have s2 : ∀ u : Ext wr, u.w.cell? ⟨g2, o2 + i * 11 + 2, none⟩ = some (.slice B1 n1 q1) := fun u => a1 u 2 (by omega)
          have s3 : ∀ u : Ext wr, u.w.cell? ⟨g2, o2 + i * 11 + 3, none⟩ = some (.string ⟨H.id.toArray⟩) := fun u => a1 u 3 (by omega)
          have s4 : ∀ u : Ext wr, u.w.cell? ⟨g2, o2 + i * 11 + 4, none⟩ = some (.string ⟨H.desc.toArray⟩) := fun u => a1 u 4 (by omega)
          have s5 : ∀ u : Ext wr, u.w.cell? ⟨g2, o2 + i * 11 + 5, none⟩ = some (.string ⟨H.enc.toArray⟩) := fun u => a1 u 5 (by omega)
          have s6 : ∀ u : Ext wr, u.w.cell? ⟨g2, o2 + i * 11 + 6, none⟩ = some (.int .i64 H.at') := fun u => a1 u 6 (by omega)
          have s7 : ∀ u : Ext wr, u.w.cell? ⟨g2, o2 + i * 11 + 7, none⟩ = some (.int .i64 H.body) := fun u => a1 u 7 (by omega)
          have s8 : ∀ u : Ext wr, u.w.cell? ⟨g2, o2 + i * 11 + 8, none⟩ = some (.int .i64 H.end') := fun u => a1 u 8 (by omega)
          have s9 : ∀ u : Ext wr, u.w.cell? ⟨g2, o2 + i * 11 + 9, none⟩ = some (.int .i64 H.lines) := fun u => a1 u 9 (by omega)
          have s10 : ∀ u : Ext wr, u.w.cell? ⟨g2, o2 + i * 11 + 10, none⟩ = some (.slice B2 n2 q2) := fun u => a1 u 10 (by omega)
          have t0 : ∀ u : Ext wr, u.w.cell? ⟨g3, o3 + i * 11, none⟩ = some (.string ⟨H.type.toArray⟩) := fun u => a2 u 0 (by omega)
          have t1 : ∀ u : Ext wr, u.w.cell? ⟨g3, o3 + i * 11 + 1, none⟩ = some (.string ⟨H.sub.toArray⟩) := fun u => a2 u 1 (by omega)
          have t2 : ∀ u : Ext wr, u.w.cell? ⟨g3, o3 + i * 11 + 2, none⟩ = some (.slice B3 n1 q3) := fun u => a2 u 2 (by omega)
          have t3 : ∀ u : Ext wr, u.w.cell? ⟨g3, o3 + i * 11 + 3, none⟩ = some (.string ⟨H.id.toArray⟩) := fun u => a2 u 3 (by omega)
          have t4 : ∀ u : Ext wr, u.w.cell? ⟨g3, o3 + i * 11 + 4, none⟩ = some (.string ⟨H.desc.toArray⟩) := fun u => a2 u 4 (by omega)
          have t5 : ∀ u : Ext wr, u.w.cell? ⟨g3, o3 + i * 11 + 5, none⟩ = some (.string ⟨H.enc.toArray⟩) := fun u => a2 u 5 (by omega)
          have t6 : ∀ u : Ext wr, u.w.cell? ⟨g3, o3 + i * 11 + 6, none⟩ = some (.int .i64 H.at') := fun u => a2 u 6 (by omega)
          have t7 : ∀ u : Ext wr, u.w.cell? ⟨g3, o3 + i * 11 + 7, none⟩ = some (.int .i64 H.body) := fun u => a2 u 7 (by omega)
          have t8 : ∀ u : Ext wr, u.w.cell? ⟨g3, o3 + i * 11 + 8, none⟩ = some (.int .i64 H.end') := fun u => a2 u 8 (by omega)
          have t9 : ∀ u : Ext wr, u.w.cell? ⟨g3, o3 + i * 11 + 9, none⟩ = some (.int .i64 H.lines) := fun u => a2 u 9 (by omega)
          have t10 : ∀ u : Ext wr, u.w.cell? ⟨g3, o3 + i * 11 + 10, none⟩ = some (.slice B4 n2 q4) := fun u => a2 u 10 (by omega)
          have m4 : ∀ u : Ext wr, u.w.cell? ⟨w.heap.size, 10, none⟩ = some (.slice (some ⟨g2, o2, none⟩) nk c) := fun u => (ext_cell wr u _ _ (by omega)).trans l4
          have m5 : ∀ u : Ext wr, u.w.cell? ⟨w.heap.size + 1, 10, none⟩ = some (.slice (some ⟨g3, o3, none⟩) nk c') := fun u => (ext_cell wr u _ _ (by omega)).trans l5
          have HC : Hid (∀ u : Ext wr, Calls Tryz.prog 15 #[.agg (phA H (.slice B1 n1 q1) (.slice B2 n2 q2)), .agg (phA H (.slice B3 n1 q3) (.slice B4 n2 q4))] u.w fun e w' => e = .returned (.bool true) ∧ Below u.w.heap.size u.w w') := fun u => HIH.out kid _ _ u.w (hp2.below (hBw.trans (u.ok.mono hBs))) (hp3.below (hBw.trans (u.ok.mono hBs))) HCn.out
          unfold phA at HC
          clear a1 a2 l4 l5 hp2 hp3 k2 k3 hvs hvs' hBK1 hBK2 hn1 hn2 hH HK HK' hBw
          go_wp2_with fail
          refine wp_region_ext (by kernel_rfl) (by kernel_rfl) ?_
          repeat (go_big_quiet_step ((go_at_call 15; exact ext_call (HC.out _))))
          refine wpQuiet_nil ?_
          rintro w5 ⟨⟨_, hb5⟩, rfl⟩
          replace hb5 := hide hb5
          clear s0 s1 s2 s3 s4 s5 s6 s7 s8 s9 s10 t0 t1 t2 t3 t4 t5 t6 t7 t8 t9 t10 m4 m5 hn'
          go_wp2
          go_roundw
          case rel => exact ⟨i + 1, by go_num, by omega, HW.out.trans (hb5.out.mono hsw2)⟩
          case measure => simp [intOf]; omega
        · obtain rfl : nk = i := by omega
          go_wp2
          go_ret
          exact ⟨rfl, HA2.out.trans (HW.out.mono HA2.out.size)⟩
theorem rsame_yes : ∀ n, SaCall n
  | 0 => fun p v v' w hp _ _ => hp.elim
  | n + 1 => fun p v v' w hp hp' hc => by
    cases p with
    | mk h ks =>
      obtain ⟨vp, A, c, rfl, hr, hk⟩ := hp
      obtain ⟨vp', A', c', rfl, hr', hk'⟩ := hp'
      obtain ⟨Ap, cp, rfl⟩ := hr.form
      obtain ⟨Ap', cp', rfl⟩ := hr'.form
      exact rsame_step n (rsame_yes n) h ks Ap Ap' A A' cp cp' c c' w hr hr' hk hk' hc
end Go.Proofs.YtfebohfmpikoeaaGreatDoor

end
section
set_option linter.unusedSimpArgs false
set_option linter.unusedVariables false
namespace Go.Proofs.YtfebohfmpikoeaaGreatDoor
open Go.RowKit Go.Shelf
/-- What the kids of a row take, each with one byte more. -/
def wsum : List (Nat × Nat) → Nat
  | [] => 0
  | k :: r => (k.2 - k.1 + 1) + wsum r
theorem wsum_app (a b : List (Nat × Nat)) : wsum (a ++ b) = wsum a + wsum b := by
  induction a with
  | nil => simp [wsum]
  | cons x r ih => simp [wsum, ih]; omega
theorem wsum_take (l : List (Nat × Nat)) (n : Nat) : wsum (l.take n) ≤ wsum l := by
  induction l generalizing n with
  | nil => simp [wsum]
  | cons x r ih =>
    cases n with
    | zero => simp [wsum]
    | succ n =>
      have := ih n
      simp only [List.take_succ_cons, wsum]
      omega
theorem kids_sum (m bd : List UInt8) (e : Nat) : ∀ (ls : List (List UInt8)) (a : Nat) (cur : Option Nat), a + ls.flatten.length = e → (∀ k, cur = some k → k ≤ a) → wsum (kidsP m bd e ls a cur) ≤ e - cur.getD a + (if cur.isSome then 1 else 0)
  | [], a, none, _, _ => by simp [kidsP, wsum]
  | [], a, some k, h, hk => by simp [kidsP, wsum]
  | x :: r, a, cur, h, hk => by
    have hx : a + x.length + r.flatten.length = e := by simpa [Nat.add_assoc] using h
    rw [kidsP]
    have ih := kids_sum m bd e r (a + x.length) (some (a + x.length)) hx (fun k hk => by cases hk; exact Nat.le_refl _)
    have ih2 := kids_sum m bd e r (a + x.length) cur hx (fun k hk' => by have := hk k hk'; omega)
    simp only [Option.getD_some, Option.isSome_some, if_true] at ih
    split
    · rename_i hd
      have hl := trimE_len x
      rw [hd] at hl
      have hl2 : (dlm bd).length = bd.length + 2 := rfl
      cases cur with
      | none =>
        simp only [Option.map_none, Option.toList_none, List.nil_append, Option.getD_none, Option.isSome_none]
        omega
      | some k =>
        have h1 := kidE_le m a k (hk k rfl)
        have hkk := hk k rfl
        simp only [Option.map_some, Option.toList_some, List.cons_append, List.nil_append, wsum, Option.getD_some, Option.isSome_some, if_true]
        omega
    · split
      · cases cur with
        | none => simp [wsum]
        | some k =>
          have h1 := kidE_le m a k (hk k rfl)
          have hkk := hk k rfl
          simp only [Option.map_some, Option.toList_some, wsum, Option.getD_some, Option.isSome_some, if_true]
          omega
      · cases cur with
        | none =>
          simp only [Option.getD_none, Option.isSome_none] at ih2 ⊢
          omega
        | some k =>
          simp only [Option.getD_some, Option.isSome_some, if_true] at ih2 ⊢
          exact ih2
theorem places_sum (m : List UInt8) (a b : Nat) (h : a ≤ b) (hb : b ≤ m.length) : wsum (placesOf m a b) ≤ b - a := by
  obtain ⟨h1, h2⟩ := bodyN_le m a b h hb
  unfold placesOf
  split
  · rename_i bd _
    split
    · refine Nat.le_trans (wsum_take _ _) ?_
      have hx : bodyN m a b + (splitS (seg m (bodyN m a b) b)).flatten.length = b := by
        rw [splitS_flat, seg_len m _ b hb]
        omega
      have := kids_sum m bd b _ (bodyN m a b) none hx (fun k hk => by cases hk)
      simp only [Option.getD_none, Option.isSome_none] at this
      refine Nat.le_trans this ?_
      simp
      omega
    · simp [wsum]
  · simp [wsum]
theorem quoI_len (s : List UInt8) (h : s.length ≤ 1000000) : (quoI s).length ≤ 2 * s.length + 110 := by
  unfold quoI
  have h1 := esc_len s
  have h2 := dec_len s.length h
  split
  · simp only [List.length_cons, List.length_append, List.length_nil]
    omega
  · simp only [List.length_cons, List.length_append]
    omega
theorem nilI_len (s : List UInt8) (h : s.length ≤ 1000000) : (nilI s).length ≤ 2 * s.length + 110 := by
  unfold nilI
  split
  · simp [tNil]
  · exact quoI_len s h
theorem lens_le (xs : List (List UInt8)) (K : Nat) (h : ∀ x ∈ xs, x.length ≤ K) : Lib.lens xs ≤ xs.length * K := by
  induction xs with
  | nil => simp [Lib.lens]
  | cons x r ih =>
    have h1 := h x (by simp)
    have h2 := ih (fun y hy => h y (by simp [hy]))
    have h3 : Lib.lens (x :: r) = x.length + Lib.lens r := by simp [Lib.lens]
    rw [h3, List.length_cons, Nat.add_mul]
    omega
theorem join_le (xs : List (List UInt8)) (K : Nat) (h : ∀ x ∈ xs, x.length ≤ K) : (Lib.join xs [32]).length ≤ xs.length * (K + 1) := by
  cases xs with
  | nil => simp [Lib.join_nil]
  | cons x r =>
    rw [Lib.join_length]
    have := lens_le (x :: r) K h
    rw [Nat.mul_add, Nat.mul_one, List.length_singleton, List.length_cons] at *
    omega
theorem par_len (ps : List Pm) (M : Nat) (hM : M ≤ 1000000) (h : ∀ p ∈ ps, p.name.length ≤ M ∧ p.value.length ≤ M) : (parI ps).length ≤ ps.length * (4 * M + 300) + 10 := by
  unfold parI
  split
  · simp [tNil]
  · have h1 := join_le (ps.flatMap fun p => [quoI p.name, quoI p.value]) (2 * M + 110) (fun x hx => by
      obtain ⟨p, hp, hx⟩ := List.mem_flatMap.1 hx
      obtain ⟨h2, h3⟩ := h p hp
      rcases List.mem_cons.1 hx with rfl | hx
      · exact Nat.le_trans (quoI_len _ (by omega)) (by omega)
      · rw [List.mem_singleton.1 hx]
        exact Nat.le_trans (quoI_len _ (by omega)) (by omega))
    rw [two_len] at h1
    simp only [List.length_cons, List.length_append, List.length_nil]
    have h2 : 2 * ps.length * (2 * M + 110 + 1) = ps.length * (4 * M + 222) := by
      rw [show 2 * ps.length = ps.length * 2 from Nat.mul_comm _ _, Nat.mul_assoc]
      congr 1
      omega
    have h3 : ps.length * (4 * M + 222) ≤ ps.length * (4 * M + 300) := Nat.mul_le_mul_left _ (by omega)
    omega
/-- What is known of what a part has beside its kids. -/
structure HB (M L : Nat) (h : PH) : Prop where
  type : h.type.length ≤ M
  sub : h.sub.length ≤ M
  id : h.id.length ≤ M
  desc : h.desc.length ≤ M
  enc : h.enc.length ≤ M
  params : h.params.length ≤ L
  each : ∀ p ∈ h.params, p.name.length ≤ M ∧ p.value.length ≤ M
  body : 0 ≤ h.body
  end' : h.body ≤ h.end' ∧ h.end' ≤ 1000000
  lines : 0 ≤ h.lines ∧ h.lines ≤ 1000000
theorem type_bd2 {s t u : List UInt8} {ps : List Pm} (h : typeO s = some (t, u, ps)) : t.length ≤ s.length ∧ u.length ≤ s.length ∧ ps.length ≤ s.length ∧ ∀ x ∈ ps, x.name.length ≤ s.length ∧ x.value.length ≤ s.length := by
  unfold typeO at h
  obtain ⟨x, h1, h⟩ := Option.bind_eq_some_iff.1 h
  obtain ⟨r2, h2, h⟩ := Option.bind_eq_some_iff.1 h
  obtain ⟨y, h3, h⟩ := Option.bind_eq_some_iff.1 h
  obtain ⟨qs, h4, h5⟩ := Option.map_eq_some_iff.1 h
  cases h5
  have a1 := (tokO_len (t := x.1) (r' := x.2) h1).1
  have a2 := markO_len h2
  have a3 := (tokO_len (t := y.1) (r' := y.2) h3).1
  have a0 := skb_len s
  have a4 := paramsF_bd _ _ _ h4
  exact ⟨by rw [List.length_map]; omega, by rw [List.length_map]; omega, by omega, fun z hz => by have := a4.2 z hz; omega⟩
theorem typV_bd (v : List UInt8) (K : Nat) (h : v.length ≤ K) : (typV v).1.length ≤ K + 20 ∧ (typV v).2.1.length ≤ K + 20 ∧ (typV v).2.2.length ≤ K ∧ ∀ x ∈ (typV v).2.2, x.name.length ≤ K ∧ x.value.length ≤ K := by
  cases ht : typeO v with
  | none =>
    rw [typV_none ht]
    refine ⟨?_, ?_, ?_, ?_⟩
    · simp [tText]
    · simp [tPlain]
    · simp
    · simp
  | some x =>
    obtain ⟨t, u, ps⟩ := x
    rw [typV_some ht]
    obtain ⟨h1, h2, h3, h4⟩ := type_bd2 ht
    exact ⟨by dsimp only; omega, by dsimp only; omega, by dsimp only; omega, fun x hx => by have := h4 x hx; omega⟩
theorem base_HB {m : List UInt8} {a b : Nat} (hab : a ≤ b) (hbm : b ≤ m.length) (hm : m.length ≤ 20000) : HB 20020 (b - a) (baseP m a b) := by
  have hs := seg_len m a b hbm
  have hF := fdsOf_bd (seg m a b)
  have hv : ∀ n, (firstV n (fdsOf (seg m a b))).length ≤ b - a := fun n => firstV_len (fun x hx => by have := (hF x hx).2; omega)
  obtain ⟨h1, h2⟩ := bodyN_le m a b hab hbm
  have hl : (splitS (seg m (bodyN m a b) b)).length ≤ 20000 := by
    refine Nat.le_trans (splitS_len _) ?_
    rw [seg_len m _ b hbm]
    omega
  obtain ⟨t1, t2, t3, t4⟩ := typV_bd (firstV nCT (fdsOf (seg m a b))) (b - a) (hv _)
  have i1 := hv nCI
  have i2 := hv nCD
  have i3 := hv nCE
  have e1 : (baseP m a b).type = (typV (firstV nCT (fdsOf (seg m a b)))).1 := rfl
  have e2 : (baseP m a b).sub = (typV (firstV nCT (fdsOf (seg m a b)))).2.1 := rfl
  have e3 : (baseP m a b).params = (typV (firstV nCT (fdsOf (seg m a b)))).2.2 := rfl
  have e4 : (baseP m a b).id = firstV nCI (fdsOf (seg m a b)) := rfl
  have e5 : (baseP m a b).desc = firstV nCD (fdsOf (seg m a b)) := rfl
  have e6 : (baseP m a b).enc = encV (firstV nCE (fdsOf (seg m a b))) := rfl
  have e7 : (baseP m a b).body = (bodyN m a b : Int) := rfl
  have e8 : (baseP m a b).end' = (b : Int) := rfl
  have e9 : (baseP m a b).lines = ((splitS (seg m (bodyN m a b) b)).length : Int) := rfl
  generalize baseP m a b = H at *
  refine ⟨by rw [e1]; omega, by rw [e2]; omega, by rw [e4]; omega, by rw [e5]; omega, ?_, by rw [e3]; omega, fun p hp => ?_, by rw [e7]; omega, by rw [e7, e8]; omega, by rw [e9]; omega⟩
  · rw [e6]
    unfold encV
    split
    · simp [t7bit]
    · rw [List.length_map]
      omega
  · rw [e3] at hp
    have := t4 p hp
    omega
theorem HB.oct {M L : Nat} {h : PH} (k : HB M L h) (hM : 20 ≤ M) : HB M L (octP h) :=
  ⟨by show tApp.length ≤ M; simp [tApp]; omega, by show tOct.length ≤ M; simp [tOct]; omega, k.id, k.desc, k.enc, by show ([] : List Pm).length ≤ L; simp, fun p hp => (by cases hp), k.body, k.end', k.lines⟩
theorem HB.ok {L : Nat} {h : PH} (k : HB 20020 L h) (hL : L ≤ 20000) : OkH h := by
  have hp := par_len h.params 20020 (by omega) k.each
  have h1 := k.params
  have h2 : h.params.length * (4 * 20020 + 300) ≤ 20000 * (4 * 20020 + 300) := Nat.mul_le_mul_right _ (by omega)
  refine ⟨by have := k.type; omega, by have := k.sub; omega, by have := k.id; omega, by have := k.desc; omega, by have := k.enc; omega, by omega, fun p hp => by have := k.each p hp; omega, by omega, k.body, ⟨k.end'.1, by have := k.end'.2; omega⟩, ⟨k.lines.1, by have := k.lines.2; omega⟩⟩
theorem HB.leaf {L : Nat} {h : PH} (k : HB 20020 L h) : (textP (.mk h [])).length ≤ 1000000 * (L + 1) := by
  have hp := par_len h.params 20020 (by omega) k.each
  have h1 := k.params
  have h2 : h.params.length * (4 * 20020 + 300) ≤ L * (4 * 20020 + 300) := Nat.mul_le_mul_right _ h1
  have q1 := quoI_len h.type (by have := k.type; omega)
  have q2 := quoI_len h.sub (by have := k.sub; omega)
  have q3 := nilI_len h.id (by have := k.id; omega)
  have q4 := nilI_len h.desc (by have := k.desc; omega)
  have q5 := quoI_len h.enc (by have := k.enc; omega)
  have d1 := dec_len (h.end' - h.body).toNat (by have := k.end'; have := k.body; omega)
  have d2 := dec_len h.lines.toNat (by have := k.lines; omega)
  have k1 := k.type
  have k2 := k.sub
  have k3 := k.id
  have k4 := k.desc
  have k5 := k.enc
  rw [textP]
  simp only [List.isEmpty_nil, if_true, List.length_cons, List.length_append, List.length_nil]
  have hj : (Lib.join (leafW h) [32]).length ≤ (quoI h.type).length + (quoI h.sub).length + (parI h.params).length + (nilI h.id).length + (nilI h.desc).length + (quoI h.enc).length + (Lib.decDigits (h.end' - h.body).toNat).length + (Lib.decDigits h.lines.toNat).length + 10 := by
    unfold leafW
    split
    · rw [List.cons_append, Lib.join_length]
      simp [Lib.lens]
      omega
    · rw [List.cons_append, Lib.join_length]
      simp [Lib.lens]
      omega
  omega
theorem kids_text (f : Nat × Nat → Part) (D : Nat) : ∀ (ps : List (Nat × Nat)), (∀ k ∈ ps, (textP (f k)).length ≤ D * (k.2 - k.1 + 1)) → (textL (ps.map f)).length ≤ D * wsum ps
  | [], _ => by simp [textL]
  | k :: r, h => by
    have h1 := h k (by simp)
    have h2 := kids_text f D r (fun x hx => h x (by simp [hx]))
    rw [List.map_cons, textL, List.length_append, wsum, Nat.mul_add]
    omega
/-- A part of a message, whole. -/
structure Fine (D : Nat) (L : Nat) (p : Part) : Prop where
  ok : OkP p
  cnt : Cnt p
  text : (textP p).length ≤ D * (L + 1)
theorem fine_leaf {L d : Nat} {h : PH} (k : HB 20020 L h) (hL : L ≤ 20000) : Fine ((d + 1) * 1000000) L (.mk h []) := by
  refine ⟨.mk _ _ (k.ok hL) (by simp), .mk _ _ (by have := k.params; omega) (by simp) (by simp), ?_⟩
  have h1 := k.leaf
  refine Nat.le_trans h1 (Nat.mul_le_mul_right _ ?_)
  omega
theorem fine_step {m : List UInt8} {a b t : Nat} (hab : a ≤ b) (hbm : b ≤ m.length) (hm : m.length ≤ 20000) (IH : ∀ a b, a ≤ b → b ≤ m.length → Fine ((t + 1) * 1000000) (b - a) (parseP t m a b)) : Fine ((t + 1 + 1) * 1000000) (b - a) (parseP (t + 1) m a b) := by
  have hb := base_HB hab hbm hm
  obtain ⟨hr, hl⟩ := places_row m a b hab hbm
  have hs := places_sum m a b hab hbm
  rw [parseP]
  generalize baseP m a b = H at *
  generalize placesOf m a b = ps at *
  split
  · by_cases h0 : ps = []
    · subst h0
      exact fine_leaf (hb.oct (by omega)) (by omega)
    · have hmem : ∀ k ∈ ps, k.1 ≤ k.2 ∧ k.2 ≤ m.length := fun k hk => by have := hr.all k hk; omega
      have hkne : ps.map (fun k => parseP t m k.1 k.2) ≠ [] := by simpa using h0
      have hw : withK H (ps.map fun k => parseP t m k.1 k.2) = .mk H (ps.map fun k => parseP t m k.1 k.2) := by
        unfold withK
        rw [if_neg (by simpa using h0)]
      rw [hw]
      have hk := kids_text (fun k => parseP t m k.1 k.2) ((t + 1) * 1000000) ps (fun k hk => (IH k.1 k.2 (hmem k hk).1 (hmem k hk).2).text)
      refine ⟨.mk _ _ (hb.ok (by omega)) (fun x hx => ?_), .mk _ _ (by have := hb.params; omega) (by rw [List.length_map]; omega) (fun x hx => ?_), ?_⟩
      · obtain ⟨k, hk, rfl⟩ := List.mem_map.1 hx
        exact (IH k.1 k.2 (hmem k hk).1 (hmem k hk).2).ok
      · obtain ⟨k, hk, rfl⟩ := List.mem_map.1 hx
        exact (IH k.1 k.2 (hmem k hk).1 (hmem k hk).2).cnt
      · have hq := quoI_len H.sub (by have := hb.sub; omega)
        have hq2 := hb.sub
        have hk2 : ((t + 1) * 1000000) * wsum ps ≤ ((t + 1) * 1000000) * (b - a) := Nat.mul_le_mul_left _ hs
        rw [textP, if_neg (by simpa using h0)]
        simp only [List.length_cons, List.length_append, List.length_nil]
        have e1 : (t + 1 + 1) * 1000000 * (b - a + 1) = (t + 1) * 1000000 * (b - a) + (t + 1) * 1000000 + 1000000 * (b - a + 1) := by
          rw [show (t + 1 + 1) * 1000000 = (t + 1) * 1000000 + 1000000 by omega, Nat.add_mul, Nat.mul_add]
          omega
        rw [e1]
        omega
  · exact fine_leaf hb (by omega)
theorem parse_fine (m : List UInt8) (hm : m.length ≤ 20000) (t : Nat) : ∀ (a b : Nat), a ≤ b → b ≤ m.length → Fine ((t + 1) * 1000000) (b - a) (parseP t m a b) := by
  induction t with
  | zero =>
    intro a b hab hbm
    have hb := base_HB hab hbm hm
    rw [parseP]
    generalize baseP m a b = H at *
    split
    · exact fine_leaf (hb.oct (by omega)) (by omega)
    · exact fine_leaf hb (by omega)
  | succ t ih => exact fun a b hab hbm => fine_step hab hbm hm ih
theorem parse_ok (m : List UInt8) (hm : m.length ≤ 20000) : OkP (parseP 32 m 0 m.length) ∧ Cnt (parseP 32 m 0 m.length) ∧ (textP (parseP 32 m 0 m.length)).length ≤ 100000000000000 := by
  obtain ⟨h1, h2, h3⟩ := parse_fine m hm 32 0 m.length (Nat.zero_le _) (Nat.le_refl _)
  refine ⟨h1, h2, ?_⟩
  have : (32 + 1) * 1000000 * (m.length - 0 + 1) ≤ (32 + 1) * 1000000 * 20001 := Nat.mul_le_mul_left _ (by omega)
  omega
end Go.Proofs.YtfebohfmpikoeaaGreatDoor

end
