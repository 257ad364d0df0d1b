/- MimeTypes. -/
import Derived.Test.YtfebohfmpikoeaaGreatDoorMi17
import Derived.Test.YtfebohfmpikoeaaGreatDoorMi6
import Derived.Test.YtfebohfmpikoeaaGreatDoorNum
set_option linter.unusedSimpArgs false
set_option linter.unusedVariables false
namespace Go.Proofs.YtfebohfmpikoeaaGreatDoor
open Go.RowKit Go.Shelf
theorem ef_errs {w : World} {ea : Nat → Addr} (h : Errs w ea) : EF w (ea 10) := ⟨h.cell 10 (by decide), h.low 10 (by decide)⟩
theorem efm_errs {w : World} {ea : Nat → Addr} (h : Errs w ea) : EFm w (ea 1) := ⟨h.cell 1 (by decide), h.low 1 (by decide)⟩
set_option maxRecDepth 20000 in
set_option maxHeartbeats 2000000 in
theorem mimeTypes_walk (s : List UInt8) (w : World) (ht : TabM w) (ea : Nat → Addr) (hE : Errs w ea) : Calls Tryz.prog 3 #[.string ⟨s.toArray⟩] w fun e w' => e = .returned (.bool true) ∧ Below w.heap.size w w' := by
  have HA := hide (alive10 w _ _ (ef_errs hE) (efm_errs hE) ht)
  have HEr := hide hE
  have hsm := size_lit s
  clear hE ht
  by_cases h1 : s.length ≤ 5000
  · have g1 : ¬ ((s.length : Int) > 5000) := by omega
    have HTy : Hid (∀ W, Below w.heap.size w W → Calls Tryz.prog 10 #[.string ⟨s.toArray⟩] W (TyOut s (ea 1) W)) := fun W hW => type_any s W (ea 1) (efm_errs (HEr.out.below hW)) (by omega)
    have HRt := hide (fun W => rtype_any s W (by omega))
    have HNm : Hid (∀ W, Below w.heap.size w W → Calls Tryz.prog 12 #[.iface 186 (.pointer (some (ea 1)))] W fun e w' => e = .returned (.int .i64 2) ∧ Below W.heap.size W w') := fun W hW => num_err 1 (by decide) W ea (HEr.out.below hW)
    go_enter Tryz.func3, Tryz.ntmps3
    go_wp2_with fail
    refine HA.out.mono ?_
    rintro e w1 ⟨rfl, hb1⟩
    have HB1 := hide hb1
    clear hb1
    go_wp2_with fail
    refine (HTy.out _ HB1.out).mono ?_
    rintro e w2 ⟨hb2, hm2⟩
    have HB2 := hide (HB1.out.trans (hb2.mono HB1.out.size))
    have hs1 := HB1.out.size
    have hs2 := hb2.size
    clear hb2
    cases hty : typeO s with
    | none =>
      rw [hty] at hm2
      obtain rfl := hm2
      go_wp2_with fail
      refine (HRt.out _).mono ?_
      rintro e w3 ⟨hb3, hm3⟩
      rw [hty] at hm3
      obtain rfl := hm3
      have HB3 := hide (HB2.out.trans (hb3.mono HB2.out.size))
      clear hb3 hty
      go_wp2_with fail
      refine (HNm.out _ HB3.out).mono ?_
      rintro e w4 ⟨rfl, hb4⟩
      have HB4 := hide (HB3.out.trans (hb4.mono HB3.out.size))
      clear hb4
      go_wp2
      refine wp_loop_rounds 1 ?_
      rw [rounds_succ]
      go_wp2
      go_ret
      exact ⟨rfl, HB4.out⟩
    | some x =>
      obtain ⟨t, u, ps⟩ := x
      rw [hty] at hm2
      obtain ⟨v2, rfl, hr2⟩ := hm2
      obtain ⟨A2, c2, rfl⟩ := hr2.form
      go_wp2_with fail
      refine (HRt.out _).mono ?_
      rintro e w3 ⟨hb3, hm3⟩
      rw [hty] at hm3
      obtain ⟨v3, rfl, hr3⟩ := hm3
      obtain ⟨A3, c3, rfl⟩ := hr3.form
      have HB3 := hide (HB2.out.trans (hb3.mono HB2.out.size))
      have HR2 := hide (RowOf.reads (f := Pm.cs) (sz := 2) (fun _ => rfl) (hr2.below hb3))
      have HR3 := hide (RowOf.reads (f := Pm.cs) (sz := 2) (fun _ => rfl) hr3)
      have hnb : ps.length ≤ maxLen := by obtain ⟨G, h, _⟩ := hr3; exact h.max
      simp only [maxLen] at hnb
      clear hb3 hty hr2 hr3
      obtain ⟨n, hn⟩ : ∃ n, ps.length = n := ⟨_, rfl⟩
      have HN := hide hn
      rw [hn] at hnb ⊢
      clear hn
      go_wp2_with fail
      go_loopw [63] (fun v wr => ∃ (i : Nat), v = .int .i64 i ∧ i ≤ n ∧ Hid (Below w3.heap.size w3 wr)) (fun v _ => n - (intOf v).toNat)
      case atStart => exact ⟨0, rfl, Nat.zero_le _, Below.refl _ _⟩
      case round =>
        obtain ⟨i, rfl, hin, HW⟩ := hrel
        by_cases hlt : i < n
        · have hlt' : (i : Int) < n := by omega
          have hip : i < ps.length := by rw [HN.out]; exact hlt
          obtain ⟨A, c, e2, hc2⟩ := HR2.out
          obtain ⟨g2, o2, rfl, hg2, k2⟩ := hc2 i hip
          obtain ⟨A', c', e3, hc3⟩ := HR3.out
          obtain ⟨g3, o3, rfl, hg3, k3⟩ := hc3 i hip
          injection e2 with e2a e2b e2c
          injection e3 with e3a e3b e3c
          subst e2a
          subst e3a
          subst e2c
          subst e3c
          clear e2b e3b
          obtain ⟨a, b, hab⟩ : ∃ a b, ps[i] = ⟨a, b⟩ := ⟨_, _, rfl⟩
          rw [hab] at k2 k3
          have hsw := HW.out.size
          have l0 : wr.cell? ⟨g2, o2 + i * 2, none⟩ = some (.string ⟨a.toArray⟩) := (HW.out.cell (p := ⟨g2, _, none⟩) hg2).trans (k2 0 (by omega))
          have l1 : wr.cell? ⟨g2, o2 + i * 2 + 1, none⟩ = some (.string ⟨b.toArray⟩) := (HW.out.cell (p := ⟨g2, _, none⟩) hg2).trans (k2 1 (by omega))
          have l2 : wr.cell? ⟨g3, o3 + i * 2, none⟩ = some (.string ⟨a.toArray⟩) := (HW.out.cell (p := ⟨g3, _, none⟩) hg3).trans (k3 0 (by omega))
          have l3 : wr.cell? ⟨g3, o3 + i * 2 + 1, none⟩ = some (.string ⟨b.toArray⟩) := (HW.out.cell (p := ⟨g3, _, none⟩) hg3).trans (k3 1 (by omega))
          clear k2 k3 hc2 hc3 hab HR2 HR3 hip
          have hn' := ext_some wr
          have m0 : ∀ u : Ext wr, u.w.cell? ⟨g2, o2 + i * 2, none⟩ = some (.string ⟨a.toArray⟩) := fun u => (ext_cell wr u _ _ (by omega)).trans l0
          have m1 : ∀ u : Ext wr, u.w.cell? ⟨g2, o2 + i * 2 + 1, none⟩ = some (.string ⟨b.toArray⟩) := fun u => (ext_cell wr u _ _ (by omega)).trans l1
          have m2 : ∀ u : Ext wr, u.w.cell? ⟨g3, o3 + i * 2, none⟩ = some (.string ⟨a.toArray⟩) := fun u => (ext_cell wr u _ _ (by omega)).trans l2
          have m3 : ∀ u : Ext wr, u.w.cell? ⟨g3, o3 + i * 2 + 1, none⟩ = some (.string ⟨b.toArray⟩) := fun u => (ext_cell wr u _ _ (by omega)).trans l3
          clear l0 l1 l2 l3
          go_wp2_with fail
          refine wp_region_ext (by kernel_rfl) (by kernel_rfl) ?_
          repeat (go_big_quiet_step (fail))
          refine wpQuiet_nil ?_
          rintro w5 ⟨⟨_, hb5⟩, rfl⟩
          replace hb5 := hide hb5
          go_wp2
          go_roundw
          case rel => exact ⟨i + 1, by go_num, by omega, HW.out.trans (hb5.out.mono hsw)⟩
          case measure => simp [intOf]; omega
        · obtain rfl : i = n := by omega
          go_wp2
          go_ret
          exact ⟨rfl, HB3.out.trans (HW.out.mono HB3.out.size)⟩
  · have g1 : ((s.length : Int) > 5000) := by omega
    go_enter Tryz.func3, Tryz.ntmps3
    go_wp2_with fail
    refine HA.out.mono ?_
    rintro e w1 ⟨rfl, hb1⟩
    have HB1 := hide hb1
    clear hb1
    go_wp2
    go_ret
    exact ⟨rfl, HB1.out⟩
end Go.Proofs.YtfebohfmpikoeaaGreatDoor
