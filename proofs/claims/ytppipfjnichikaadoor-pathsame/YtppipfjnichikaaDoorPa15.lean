/- PathSame. -/
import Derived.Test.YtppipfjnichikaaDoorPa14
namespace Go.Proofs.YtppipfjnichikaaDoor
open Go.RowKit Go.Shelf
theorem same_self (l d : List UInt8) : sameB l d l d = true := by simp [sameB]
set_option maxHeartbeats 4000000 in
theorem same_walk (l d m e : List UInt8) (w : World) : Calls Tryd.prog 6 #[.agg #[.string ⟨l.toArray⟩, .string ⟨d.toArray⟩], .agg #[.string ⟨m.toArray⟩, .string ⟨e.toArray⟩]] w fun x w' => x = .returned (.bool true) ∧ Below w.heap.size w w' := by
  have HA := hide alive_any
  obtain ⟨W0, hW0⟩ : ∃ W0, (w.alloc (.cells #[.string ⟨l.toArray⟩, .string ⟨d.toArray⟩] 24)).alloc (.cells #[.string ⟨m.toArray⟩, .string ⟨e.toArray⟩] 24) = W0 := ⟨_, rfl⟩
  have hb0 : Below w.heap.size w W0 := by rw [← hW0]; exact ((Below.refl _ _).alloc (Nat.le_refl _) _).alloc (by simp) _
  have hB1 : Blk W0 w.heap.size #[.string ⟨l.toArray⟩, .string ⟨d.toArray⟩] 24 := by rw [← hW0]; exact (Blk.new w _ _).alloc _
  have hB2 : Blk W0 (w.heap.size + 1) #[.string ⟨m.toArray⟩, .string ⟨e.toArray⟩] 24 := by rw [← hW0]; exact Blk.new1 w _ _ _
  have HB0 := hide hb0
  have HB1 := hide hB1
  have HB2 := hide hB2
  clear hb0 hB1 hB2
  by_cases h0 : 1000 < l.length
  · have g0 : 1000 < (l.length : Int) := by omega
    go_enter Tryd.func6, Tryd.ntmps6
    go_wp2_with (first | (go_at_call 8; refine (HA.out _).mono ?_; rintro x w1 ⟨rfl, hb1⟩; have hc1 := (HB1.out.below hb1 HB1.out.lt).cell; have hc2 := (HB2.out.below hb1 HB2.out.lt).cell; replace hb1 := hide hb1))
    go_ret
    exact ⟨rfl, HB0.out.trans (hb1.out.mono HB0.out.size)⟩
  have g0 : ¬ 1000 < (l.length : Int) := by omega
  have g0' : decide (1000 < (l.length : Int)) = false := decide_eq_false g0
  by_cases h1 : 1000 < d.length
  · have g1 : 1000 < (d.length : Int) := by omega
    go_enter Tryd.func6, Tryd.ntmps6
    go_wp2_with (first | (go_at_call 8; refine (HA.out _).mono ?_; rintro x w1 ⟨rfl, hb1⟩; have hc1 := (HB1.out.below hb1 HB1.out.lt).cell; have hc2 := (HB2.out.below hb1 HB2.out.lt).cell; replace hb1 := hide hb1))
    go_ret
    exact ⟨rfl, HB0.out.trans (hb1.out.mono HB0.out.size)⟩
  have g1 : ¬ 1000 < (d.length : Int) := by omega
  have g1' : decide (1000 < (d.length : Int)) = false := decide_eq_false g1
  by_cases h2 : 1000 < m.length
  · have g2 : 1000 < (m.length : Int) := by omega
    go_enter Tryd.func6, Tryd.ntmps6
    go_wp2_with (first | (go_at_call 8; refine (HA.out _).mono ?_; rintro x w1 ⟨rfl, hb1⟩; have hc1 := (HB1.out.below hb1 HB1.out.lt).cell; have hc2 := (HB2.out.below hb1 HB2.out.lt).cell; replace hb1 := hide hb1))
    go_ret
    exact ⟨rfl, HB0.out.trans (hb1.out.mono HB0.out.size)⟩
  have g2 : ¬ 1000 < (m.length : Int) := by omega
  have g2' : decide (1000 < (m.length : Int)) = false := decide_eq_false g2
  by_cases h3 : 1000 < e.length
  · have g3 : 1000 < (e.length : Int) := by omega
    go_enter Tryd.func6, Tryd.ntmps6
    go_wp2_with (first | (go_at_call 8; refine (HA.out _).mono ?_; rintro x w1 ⟨rfl, hb1⟩; have hc1 := (HB1.out.below hb1 HB1.out.lt).cell; have hc2 := (HB2.out.below hb1 HB2.out.lt).cell; replace hb1 := hide hb1))
    go_ret
    exact ⟨rfl, HB0.out.trans (hb1.out.mono HB0.out.size)⟩
  have g3 : ¬ 1000 < (e.length : Int) := by omega
  have g3' : decide (1000 < (e.length : Int)) = false := decide_eq_false g3
  have HS := hide (fun l d m e w hd he => same_any l d m e w hd he)
  have HR := hide (fun l w hl => rsmall_any l w hl)
  have hss := same_self l d
  by_cases k1 : m = l
  · subst k1
    by_cases k2 : e.map lowB = d.map lowB
    · have hsv : sameB m d m e = true := by simp [sameB, k2]
      go_enter Tryd.func6, Tryd.ntmps6
      go_wp2_with (first | (go_at_call 8; refine (HA.out _).mono ?_; rintro x w1 ⟨rfl, hb1⟩; have hc1 := (HB1.out.below hb1 HB1.out.lt).cell; have hc2 := (HB2.out.below hb1 HB2.out.lt).cell; replace hb1 := hide hb1))
      clear hc1 hc2
      have hn := ext_some w1
      have hlt1 := Nat.lt_of_lt_of_le HB1.out.lt hb1.out.size
      have hlt2 := Nat.lt_of_lt_of_le HB2.out.lt hb1.out.size
      have hc : ∀ (u : Ext w1) (o : Nat), u.w.cell? ⟨w.heap.size, o, none⟩ = #[Value.string ⟨m.toArray⟩, Value.string ⟨d.toArray⟩][o]? := fun u o => (ext_cell w1 u _ _ hlt1).trans ((HB1.out.below hb1.out HB1.out.lt).cell o)
      have hc2 : ∀ (u : Ext w1) (o : Nat), u.w.cell? ⟨w.heap.size + 1, o, none⟩ = #[Value.string ⟨m.toArray⟩, Value.string ⟨e.toArray⟩][o]? := fun u o => (ext_cell w1 u _ _ hlt2).trans ((HB2.out.below hb1.out HB2.out.lt).cell o)
      refine wp_region_ext (by kernel_rfl) (by kernel_rfl) ?_
      repeat (go_big_quiet_step ((first | (go_at_call 20; exact ext_call (HS.out _ _ _ _ _ (by omega) (by omega))) | (go_at_call 21; exact ext_call (HR.out _ _ (by omega))))))
      refine wpQuiet_nil ?_
      rintro w2 ⟨⟨_, hb2⟩, rfl⟩
      go_wp2
      go_ret
      exact ⟨by simp, HB0.out.trans ((hb1.out.trans (hb2.mono hb1.out.size)).mono HB0.out.size)⟩
    · have k2' : ¬ d.map lowB = e.map lowB := fun e => k2 e.symm
      have k3 : (d.map lowB == e.map lowB) = false := by rw [beq_eq_false_iff_ne]; exact k2'
      have hsv : sameB m d m e = false := by simp [sameB, k2']
      go_enter Tryd.func6, Tryd.ntmps6
      go_wp2_with (first | (go_at_call 8; refine (HA.out _).mono ?_; rintro x w1 ⟨rfl, hb1⟩; have hc1 := (HB1.out.below hb1 HB1.out.lt).cell; have hc2 := (HB2.out.below hb1 HB2.out.lt).cell; replace hb1 := hide hb1))
      clear hc1 hc2
      have hn := ext_some w1
      have hlt1 := Nat.lt_of_lt_of_le HB1.out.lt hb1.out.size
      have hlt2 := Nat.lt_of_lt_of_le HB2.out.lt hb1.out.size
      have hc : ∀ (u : Ext w1) (o : Nat), u.w.cell? ⟨w.heap.size, o, none⟩ = #[Value.string ⟨m.toArray⟩, Value.string ⟨d.toArray⟩][o]? := fun u o => (ext_cell w1 u _ _ hlt1).trans ((HB1.out.below hb1.out HB1.out.lt).cell o)
      have hc2 : ∀ (u : Ext w1) (o : Nat), u.w.cell? ⟨w.heap.size + 1, o, none⟩ = #[Value.string ⟨m.toArray⟩, Value.string ⟨e.toArray⟩][o]? := fun u o => (ext_cell w1 u _ _ hlt2).trans ((HB2.out.below hb1.out HB2.out.lt).cell o)
      refine wp_region_ext (by kernel_rfl) (by kernel_rfl) ?_
      repeat (go_big_quiet_step ((first | (go_at_call 20; exact ext_call (HS.out _ _ _ _ _ (by omega) (by omega))) | (go_at_call 21; exact ext_call (HR.out _ _ (by omega))))))
      refine wpQuiet_nil ?_
      rintro w2 ⟨⟨_, hb2⟩, rfl⟩
      go_wp2
      go_ret
      exact ⟨by simp, HB0.out.trans ((hb1.out.trans (hb2.mono hb1.out.size)).mono HB0.out.size)⟩
  · have k1' : ¬ l = m := fun e => k1 e.symm
    have k3 : (l == m) = false := by rw [beq_eq_false_iff_ne]; exact k1'
    have hsv : sameB l d m e = false := by simp [sameB, k1']
    go_enter Tryd.func6, Tryd.ntmps6
    go_wp2_with (first | (go_at_call 8; refine (HA.out _).mono ?_; rintro x w1 ⟨rfl, hb1⟩; have hc1 := (HB1.out.below hb1 HB1.out.lt).cell; have hc2 := (HB2.out.below hb1 HB2.out.lt).cell; replace hb1 := hide hb1))
    clear hc1 hc2
    have hn := ext_some w1
    have hlt1 := Nat.lt_of_lt_of_le HB1.out.lt hb1.out.size
    have hlt2 := Nat.lt_of_lt_of_le HB2.out.lt hb1.out.size
    have hc : ∀ (u : Ext w1) (o : Nat), u.w.cell? ⟨w.heap.size, o, none⟩ = #[Value.string ⟨l.toArray⟩, Value.string ⟨d.toArray⟩][o]? := fun u o => (ext_cell w1 u _ _ hlt1).trans ((HB1.out.below hb1.out HB1.out.lt).cell o)
    have hc2 : ∀ (u : Ext w1) (o : Nat), u.w.cell? ⟨w.heap.size + 1, o, none⟩ = #[Value.string ⟨m.toArray⟩, Value.string ⟨e.toArray⟩][o]? := fun u o => (ext_cell w1 u _ _ hlt2).trans ((HB2.out.below hb1.out HB2.out.lt).cell o)
    refine wp_region_ext (by kernel_rfl) (by kernel_rfl) ?_
    repeat (go_big_quiet_step ((first | (go_at_call 20; exact ext_call (HS.out _ _ _ _ _ (by omega) (by omega))) | (go_at_call 21; exact ext_call (HR.out _ _ (by omega))))))
    refine wpQuiet_nil ?_
    rintro w2 ⟨⟨_, hb2⟩, rfl⟩
    go_wp2
    go_ret
    exact ⟨by simp, HB0.out.trans ((hb1.out.trans (hb2.mono hb1.out.size)).mono HB0.out.size)⟩
end Go.Proofs.YtppipfjnichikaaDoor
