/- MimeTexts. -/
import Derived.Test.YtegplihhbdmnbaaGreatDoorU38
import Derived.Test.YtegplihhbdmnbaaGreatDoorU39
import Derived.Test.YtegplihhbdmnbaaGreatDoorU42
import Derived.Test.YtegplihhbdmnbaaGreatDoorU45
import Derived.Test.YtegplihhbdmnbaaGreatDoorU47
import Derived.Deep.RegionWith
set_option linter.unusedSimpArgs false
set_option linter.unusedVariables false
namespace Go.Proofs.YtegplihhbdmnbaaGreatDoor
open Go.RowKit Go.Shelf
theorem CntU.cnt : ∀ {p : Part}, CntU p → Cnt p
  | .mk h ks, k => by
    cases k with
    | mk _ _ a b _ _ _ _ _ _ c => exact .mk h ks (by omega) (by omega) (fun x hx => (c x hx).cnt)
set_option maxRecDepth 20000 in
set_option maxHeartbeats 4000000 in
/-- All of the law. -/
theorem mimeTexts_walk (n : Nat) (p p' : Part) (v v' : Value) (w : World) (hp : PA n (fun g => 0 ≤ g) w v p) (hp' : PA n (fun g => 0 ≤ g) w v' p') (hc : CntU p) (hc' : CntU p') (hi : IntP p) (ht : TabM w) (ea ef : Addr) (hE : EF w ea) (hF : EFm w ef) :
    Calls Tryz.prog 4 #[v, v'] w fun e w' => e = .returned (.bool true) ∧ Below w.heap.size w w' := by
  obtain ⟨Ap, cp, Ak, ck, rfl⟩ := hp.form
  obtain ⟨Bp, dp, Bk, dk, rfl⟩ := hp'.form
  obtain ⟨n1, hn1⟩ : ∃ n, p.h.params.length = n := ⟨_, rfl⟩
  obtain ⟨n2, hn2⟩ : ∃ n, p.kids.length = n := ⟨_, rfl⟩
  obtain ⟨H, hH⟩ : ∃ H, p.h = H := ⟨_, rfl⟩
  obtain ⟨n3, hn3⟩ : ∃ n, p'.h.params.length = n := ⟨_, rfl⟩
  obtain ⟨n4, hn4⟩ : ∃ n, p'.kids.length = n := ⟨_, rfl⟩
  obtain ⟨H', hH'⟩ : ∃ H, p'.h = H := ⟨_, rfl⟩
  rw [hn1, hn2, hH] at hp ⊢
  rw [hn3, hn4, hH'] at hp' ⊢
  clear hn1 hn2 hH hn3 hn4 hH'
  have hA1 := (Below.refl w.heap.size w).alloc (Nat.le_refl _) (.cells (phA H (.slice Ap n1 cp) (.slice Ak n2 ck)) 40)
  have hA2 := hA1.alloc hA1.size (.cells (phA H' (.slice Bp n3 dp) (.slice Bk n4 dk)) 40)
  have hK1 := (Blk.new w (phA H (.slice Ap n1 cp) (.slice Ak n2 ck)) 40).alloc (.cells (phA H' (.slice Bp n3 dp) (.slice Bk n4 dk)) 40)
  have hK2 := Blk.new (w.alloc (.cells (phA H (.slice Ap n1 cp) (.slice Ak n2 ck)) 40)) (phA H' (.slice Bp n3 dp) (.slice Bk n4 dk)) 40
  have hz : (w.alloc (.cells (phA H (.slice Ap n1 cp) (.slice Ak n2 ck)) 40)).heap.size = w.heap.size + 1 := World.size_alloc _ _
  rw [hz] at hK2
  obtain ⟨W2, hW2⟩ : ∃ W2, (w.alloc (.cells (phA H (.slice Ap n1 cp) (.slice Ak n2 ck)) 40)).alloc (.cells (phA H' (.slice Bp n3 dp) (.slice Bk n4 dk)) 40) = W2 := ⟨_, rfl⟩
  rw [hW2] at hA2 hK1 hK2
  have HA := hide (alive10 W2 ea ef (hE.below hA2) (hF.below hA2) (ht.below hA2))
  have HA2 := hide hA2
  have HK1 := hide hK1
  have HK2 := hide hK2
  have HP := hide hp
  have HP' := hide hp'
  have HC := hide hc
  have HC' := hide hc'
  have HI := hide hi
  have HTab := hide ht
  unfold phA at hW2
  clear hA1 hA2 hK1 hK2 hz hp hp' hc hc' hi ht hE hF
  go_enter Tryz.func4, Tryz.ntmps4
  unfold phA
  go_wp2_with fail
  refine HA.out.mono ?_
  rintro e w3 ⟨rfl, hb3⟩
  have HB3 := hide (HA2.out.trans (hb3.mono HA2.out.size))
  have HK13 := hide (HK1.out.below hb3 HK1.out.lt)
  have HK23 := hide (HK2.out.below hb3 HK2.out.lt)
  obtain ⟨c0, c1, c2, c3, c4, c5, c6, c7, c8, c9, c10⟩ := blk11 HK13.out
  have HG := hide (bigV_any p _ w3 (HP.out.below HB3.out) HC.out)
  unfold phA at HG
  clear HA HA2 HK1 HK2 hb3 hW2
  go_wp2_with fail
  refine HG.out.mono ?_
  rintro e w4 ⟨rfl, hb4⟩
  have HB4 := hide (HB3.out.trans (hb4.mono HB3.out.size))
  have HK14 := hide (HK13.out.below hb4 HK13.out.lt)
  have HK24 := hide (HK23.out.below hb4 HK23.out.lt)
  clear HG hb4 HB3 HK13 HK23 c0 c1 c2 c3 c4 c5 c6 c7 c8 c9 c10
  by_cases hz1 : 2000 < szP 0 0 p
  · rw [decide_eq_true hz1]
    go_wp2
    go_ret
    exact ⟨rfl, HB4.out⟩
  · rw [decide_eq_false hz1]
    have HZ1 : Hid (szP 0 0 p ≤ 2000) := by show _ ≤ _; omega
    clear hz1
    obtain ⟨d0, d1, d2, d3, d4, d5, d6, d7, d8, d9, d10⟩ := blk11 HK24.out
    have HG := hide (bigV_any p' _ w4 (HP'.out.below HB4.out) HC'.out)
    unfold phA at HG
    go_wp2_with fail
    refine HG.out.mono ?_
    rintro e w5 ⟨rfl, hb5⟩
    have HB5 := hide (HB4.out.trans (hb5.mono HB4.out.size))
    have HK15 := hide (HK14.out.below hb5 HK14.out.lt)
    have HK25 := hide (HK24.out.below hb5 HK24.out.lt)
    clear HG hb5 HB4 HK14 HK24 d0 d1 d2 d3 d4 d5 d6 d7 d8 d9 d10
    by_cases hz2 : 2000 < szP 0 0 p'
    · rw [decide_eq_true hz2]
      go_wp2
      go_ret
      exact ⟨rfl, HB5.out⟩
    · rw [decide_eq_false hz2]
      clear hz2
      obtain ⟨hok, hcn, htl⟩ := szP_ok p 0 0 HZ1.out HI.out
      have htl' : (textP p).length ≤ 100000000000000 := by have := HZ1.out; omega
      have hcn' : countP p ≤ 1000000000 := by have := HZ1.out; omega
      have HTx : Hid (∀ u : Ext w5, Calls Tryz.prog 12 #[.agg (phA H (.slice Ap n1 cp) (.slice Ak n2 ck))] u.w fun e w' => e = .returned (.string ⟨(textP p).toArray⟩) ∧ Below u.w.heap.size u.w w') := fun u => text_any p _ u.w (HP.out.below (HB5.out.trans (u.ok.mono HB5.out.size))) hok (HTab.out.below (HB5.out.trans (u.ok.mono HB5.out.size))) htl'
      have HRx : Hid (∀ u : Ext w5, Calls Tryz.prog 13 #[.agg (phA H (.slice Ap n1 cp) (.slice Ak n2 ck))] u.w fun e w' => e = .returned (.string ⟨(textP p).toArray⟩) ∧ Below u.w.heap.size u.w w') := fun u => rtext10_any n p _ u.w (HP.out.below (HB5.out.trans (u.ok.mono HB5.out.size))) hok htl'
      have HCt : Hid (∀ u : Ext w5, Calls Tryz.prog 14 #[.agg (phA H (.slice Ap n1 cp) (.slice Ak n2 ck))] u.w fun e w' => e = .returned (.int .i64 ((countP p : Nat) : Int)) ∧ Below u.w.heap.size u.w w') := fun u => ct_any n p _ u.w (HP.out.below (HB5.out.trans (u.ok.mono HB5.out.size))) hcn'
      have HLc : Hid (∀ u : Ext w5, Calls Tryz.prog 15 #[.agg (phA H (.slice Ap n1 cp) (.slice Ak n2 ck))] u.w fun e w' => e = .returned (.int .i64 ((countP p : Nat) : Int)) ∧ Below u.w.heap.size u.w w') := fun u => lct_any n p _ u.w (HP.out.below (HB5.out.trans (u.ok.mono HB5.out.size))) hcn'
      have HSm : Hid (∀ u : Ext w5, Calls Tryz.prog 16 #[.agg (phA H (.slice Ap n1 cp) (.slice Ak n2 ck)), .agg (phA H' (.slice Bp n3 dp) (.slice Bk n4 dk))] u.w fun e w' => e = .returned (.bool (samP p p')) ∧ Below u.w.heap.size u.w w') := fun u => psame_any n p p' _ _ u.w (HP.out.below (HB5.out.trans (u.ok.mono HB5.out.size))) (HP'.out.below (HB5.out.trans (u.ok.mono HB5.out.size))) HC.out.cnt HC'.out.cnt
      have HSr : Hid (∀ u : Ext w5, Calls Tryz.prog 17 #[.agg (phA H (.slice Ap n1 cp) (.slice Ak n2 ck)), .agg (phA H' (.slice Bp n3 dp) (.slice Bk n4 dk))] u.w fun e w' => e = .returned (.bool (samP p p')) ∧ Below u.w.heap.size u.w w') := fun u => rsameV_any n p p' _ _ u.w (HP.out.below (HB5.out.trans (u.ok.mono HB5.out.size))) (HP'.out.below (HB5.out.trans (u.ok.mono HB5.out.size))) HC.out.cnt HC'.out.cnt
      have HSs : Hid (∀ u : Ext w5, Calls Tryz.prog 16 #[.agg (phA H (.slice Ap n1 cp) (.slice Ak n2 ck)), .agg (phA H (.slice Ap n1 cp) (.slice Ak n2 ck))] u.w fun e w' => e = .returned (.bool true) ∧ Below u.w.heap.size u.w w') := fun u => by
        have := psame_any n p p _ _ u.w (HP.out.below (HB5.out.trans (u.ok.mono HB5.out.size))) (HP.out.below (HB5.out.trans (u.ok.mono HB5.out.size))) HC.out.cnt HC.out.cnt
        rw [samP_refl] at this
        exact this
      generalize textP p = TX at *
      generalize countP p = CN at *
      generalize samP p p' = sb at *
      unfold phA at HTx HRx HCt HLc HSm HSr HSs
      have hn0 := ext_some w5
      have s0 : ∀ u : Ext w5, u.w.cell? ⟨w.heap.size, 0, none⟩ = some (.string ⟨H.type.toArray⟩) := fun u => ((ext_cell w5 u _ _ HK15.out.lt).trans (HK15.out.cell 0))
      have s1 : ∀ u : Ext w5, u.w.cell? ⟨w.heap.size, 1, none⟩ = some (.string ⟨H.sub.toArray⟩) := fun u => ((ext_cell w5 u _ _ HK15.out.lt).trans (HK15.out.cell 1))
      have s2 : ∀ u : Ext w5, u.w.cell? ⟨w.heap.size, 2, none⟩ = some (.slice Ap n1 cp) := fun u => ((ext_cell w5 u _ _ HK15.out.lt).trans (HK15.out.cell 2))
      have s3 : ∀ u : Ext w5, u.w.cell? ⟨w.heap.size, 3, none⟩ = some (.string ⟨H.id.toArray⟩) := fun u => ((ext_cell w5 u _ _ HK15.out.lt).trans (HK15.out.cell 3))
      have s4 : ∀ u : Ext w5, u.w.cell? ⟨w.heap.size, 4, none⟩ = some (.string ⟨H.desc.toArray⟩) := fun u => ((ext_cell w5 u _ _ HK15.out.lt).trans (HK15.out.cell 4))
      have s5 : ∀ u : Ext w5, u.w.cell? ⟨w.heap.size, 5, none⟩ = some (.string ⟨H.enc.toArray⟩) := fun u => ((ext_cell w5 u _ _ HK15.out.lt).trans (HK15.out.cell 5))
      have s6 : ∀ u : Ext w5, u.w.cell? ⟨w.heap.size, 6, none⟩ = some (.int .i64 H.at') := fun u => ((ext_cell w5 u _ _ HK15.out.lt).trans (HK15.out.cell 6))
      have s7 : ∀ u : Ext w5, u.w.cell? ⟨w.heap.size, 7, none⟩ = some (.int .i64 H.body) := fun u => ((ext_cell w5 u _ _ HK15.out.lt).trans (HK15.out.cell 7))
      have s8 : ∀ u : Ext w5, u.w.cell? ⟨w.heap.size, 8, none⟩ = some (.int .i64 H.end') := fun u => ((ext_cell w5 u _ _ HK15.out.lt).trans (HK15.out.cell 8))
      have s9 : ∀ u : Ext w5, u.w.cell? ⟨w.heap.size, 9, none⟩ = some (.int .i64 H.lines) := fun u => ((ext_cell w5 u _ _ HK15.out.lt).trans (HK15.out.cell 9))
      have s10 : ∀ u : Ext w5, u.w.cell? ⟨w.heap.size, 10, none⟩ = some (.slice Ak n2 ck) := fun u => ((ext_cell w5 u _ _ HK15.out.lt).trans (HK15.out.cell 10))
      have t0 : ∀ u : Ext w5, u.w.cell? ⟨w.heap.size + 1, 0, none⟩ = some (.string ⟨H'.type.toArray⟩) := fun u => ((ext_cell w5 u _ _ HK25.out.lt).trans (HK25.out.cell 0))
      have t1 : ∀ u : Ext w5, u.w.cell? ⟨w.heap.size + 1, 1, none⟩ = some (.string ⟨H'.sub.toArray⟩) := fun u => ((ext_cell w5 u _ _ HK25.out.lt).trans (HK25.out.cell 1))
      have t2 : ∀ u : Ext w5, u.w.cell? ⟨w.heap.size + 1, 2, none⟩ = some (.slice Bp n3 dp) := fun u => ((ext_cell w5 u _ _ HK25.out.lt).trans (HK25.out.cell 2))
      have t3 : ∀ u : Ext w5, u.w.cell? ⟨w.heap.size + 1, 3, none⟩ = some (.string ⟨H'.id.toArray⟩) := fun u => ((ext_cell w5 u _ _ HK25.out.lt).trans (HK25.out.cell 3))
      have t4 : ∀ u : Ext w5, u.w.cell? ⟨w.heap.size + 1, 4, none⟩ = some (.string ⟨H'.desc.toArray⟩) := fun u => ((ext_cell w5 u _ _ HK25.out.lt).trans (HK25.out.cell 4))
      have t5 : ∀ u : Ext w5, u.w.cell? ⟨w.heap.size + 1, 5, none⟩ = some (.string ⟨H'.enc.toArray⟩) := fun u => ((ext_cell w5 u _ _ HK25.out.lt).trans (HK25.out.cell 5))
      have t6 : ∀ u : Ext w5, u.w.cell? ⟨w.heap.size + 1, 6, none⟩ = some (.int .i64 H'.at') := fun u => ((ext_cell w5 u _ _ HK25.out.lt).trans (HK25.out.cell 6))
      have t7 : ∀ u : Ext w5, u.w.cell? ⟨w.heap.size + 1, 7, none⟩ = some (.int .i64 H'.body) := fun u => ((ext_cell w5 u _ _ HK25.out.lt).trans (HK25.out.cell 7))
      have t8 : ∀ u : Ext w5, u.w.cell? ⟨w.heap.size + 1, 8, none⟩ = some (.int .i64 H'.end') := fun u => ((ext_cell w5 u _ _ HK25.out.lt).trans (HK25.out.cell 8))
      have t9 : ∀ u : Ext w5, u.w.cell? ⟨w.heap.size + 1, 9, none⟩ = some (.int .i64 H'.lines) := fun u => ((ext_cell w5 u _ _ HK25.out.lt).trans (HK25.out.cell 9))
      have t10 : ∀ u : Ext w5, u.w.cell? ⟨w.heap.size + 1, 10, none⟩ = some (.slice Bk n4 dk) := fun u => ((ext_cell w5 u _ _ HK25.out.lt).trans (HK25.out.cell 10))
      clear HP HP' HC HC' HI HTab HZ1 hok hcn htl htl' hcn' HK15 HK25
      go_wp2_with fail
      refine wp_region_ext (by kernel_rfl) (by kernel_rfl) ?_
      repeat (go_big_quiet_step ((first | (go_at_call_of 16 (Value.slice Bp n3 dp); exact ext_call (HSm.out _)) | (go_at_call 16; exact ext_call (HSs.out _)) | (go_at_call 17; exact ext_call (HSr.out _)) | (go_at_call 12; exact ext_call (HTx.out _)) | (go_at_call 13; exact ext_call (HRx.out _)) | (go_at_call 14; exact ext_call (HCt.out _)) | (go_at_call 15; exact ext_call (HLc.out _)))))
      refine wpQuiet_nil ?_
      rintro w6 ⟨⟨_, hb6⟩, rfl⟩
      have HB6 := hide (HB5.out.trans (hb6.mono HB5.out.size))
      clear hb6 s0 s1 s2 s3 s4 s5 s6 s7 s8 s9 s10 t0 t1 t2 t3 t4 t5 t6 t7 t8 t9 t10 hn0
      go_wp2
      go_ret
      exact ⟨rfl, HB6.out⟩
end Go.Proofs.YtegplihhbdmnbaaGreatDoor
