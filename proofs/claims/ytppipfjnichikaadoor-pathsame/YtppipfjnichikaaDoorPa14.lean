/- smallDomain and Same of package path; PathSame. -/
import Derived.Test.YtppipfjnichikaaDoorPa13
namespace Go.Proofs.YtppipfjnichikaaDoor
open Go.RowKit Go.Shelf
set_option maxHeartbeats 1000000 in
theorem smallDomain_any (l d : List UInt8) (w : World) (hd : d.length ≤ 1000000) : Calls Tryd.prog 34 #[.agg #[.string ⟨l.toArray⟩, .string ⟨d.toArray⟩]] w fun e w' => e = .returned (.agg #[.string ⟨l.toArray⟩, .string ⟨(d.map lowB).toArray⟩]) ∧ Below w.heap.size w w' := by
  have HS := hide (fun w => small_any d w hd)
  generalize d.map lowB = t at *
  go_enter Tryd.func34, Tryd.ntmps34
  go_wp2
  obtain ⟨W0, hW0⟩ : ∃ W0, (w.alloc (.cells #[.string ⟨l.toArray⟩, .string ⟨d.toArray⟩] 24)).alloc (.cells #[.string ⟨#[]⟩, .string ⟨#[]⟩] 24) = W0 := ⟨_, rfl⟩
  have hb0 : Below w.heap.size w W0 := by rw [← hW0]; exact ((Below.refl _ _).alloc (Nat.le_refl _) _).alloc (by simp) _
  have hB1 : Blk W0 w.heap.size #[.string ⟨l.toArray⟩, .string ⟨d.toArray⟩] 24 := by rw [← hW0]; exact (Blk.new w _ _).alloc _
  have hB2 : Blk W0 (w.heap.size + 1) #[.string ⟨#[]⟩, .string ⟨#[]⟩] 24 := by rw [← hW0]; exact Blk.new1 w _ _ _
  rw [hW0]
  have HS2 : Hid (∀ w', Below W0.heap.size W0 w' → Calls Tryd.prog 42 #[.string ⟨d.toArray⟩] w' fun e w'' => e = .returned (.string ⟨t.toArray⟩) ∧ (∀ o, w''.cell? ⟨w.heap.size, o, none⟩ = #[Value.string ⟨l.toArray⟩, Value.string ⟨d.toArray⟩][o]?) ∧ (∀ o, w''.cell? ⟨w.heap.size + 1, o, none⟩ = #[Value.string ⟨#[]⟩, Value.string ⟨#[]⟩][o]?) ∧ (∀ o, w''.frozen? ⟨w.heap.size + 1, o, none⟩ = false) ∧ Hid (Blk w'' (w.heap.size + 1) #[.string ⟨#[]⟩, .string ⟨#[]⟩] 24) ∧ Hid (Below w.heap.size w w'')) := by
    intro w' hw'
    refine (HS.out w').mono ?_
    rintro e w'' ⟨rfl, hb''⟩
    have hb := hw'.trans (hb''.mono hw'.size)
    have k1 := hB1.below hb hB1.lt
    have k2 := hB2.below hb hB2.lt
    exact ⟨rfl, k1.cell, k2.cell, k2.frozen, k2, hb0.trans (hb.mono hb0.size)⟩
  have c1 := hB1.cell
  have c2 := hB2.cell
  have f2 := hB2.frozen
  have HB0 := hide (Below.refl W0.heap.size W0)
  clear hW0 hB1 hB2 HS
  go_region_with (go_at_call 42; refine (HS2.out _ HB0.out.drew).mono ?_; rintro e w3 ⟨rfl, hc3, hd3, hf3, hk3, hb3⟩)
  all_goals
    go_wp2
    have h4 := ((hk3.out.set 0 (.string ⟨l.toArray⟩)).set 1 (.string ⟨t.toArray⟩)).cell
    exact bodyPost_ret (v := .agg #[.string ⟨l.toArray⟩, .string ⟨t.toArray⟩]) (by simp [results, Tryd.results34, go_sem, h4]) rfl ⟨rfl, (hb3.out.setCell (p := ⟨w.heap.size + 1, 0, none⟩) (by simp) _).setCell (p := ⟨w.heap.size + 1, 1, none⟩) (by simp) _⟩
def sameB (l d m e : List UInt8) : Bool := decide (l = m) && decide (d.map lowB = e.map lowB)
set_option maxHeartbeats 1000000 in
theorem same_any (l d m e : List UInt8) (w : World) (hd : d.length ≤ 1000000) (he : e.length ≤ 1000000) : Calls Tryd.prog 20 #[.agg #[.string ⟨l.toArray⟩, .string ⟨d.toArray⟩], .agg #[.string ⟨m.toArray⟩, .string ⟨e.toArray⟩]] w fun x w' => x = .returned (.bool (sameB l d m e)) ∧ Below w.heap.size w w' := by
  have HS := hide (fun l d w hd => smallDomain_any l d w hd)
  unfold sameB
  obtain ⟨W0, hW0⟩ : ∃ W0, (w.alloc (.cells #[.string ⟨l.toArray⟩, .string ⟨d.toArray⟩] 24)).alloc (.cells #[.string ⟨m.toArray⟩, .string ⟨e.toArray⟩] 24) = W0 := ⟨_, rfl⟩
  have hb0 : Below w.heap.size w W0 := by rw [← hW0]; exact ((Below.refl _ _).alloc (Nat.le_refl _) _).alloc (by simp) _
  have hB1 : Blk W0 w.heap.size #[.string ⟨l.toArray⟩, .string ⟨d.toArray⟩] 24 := by rw [← hW0]; exact (Blk.new w _ _).alloc _
  have hB2 : Blk W0 (w.heap.size + 1) #[.string ⟨m.toArray⟩, .string ⟨e.toArray⟩] 24 := by rw [← hW0]; exact Blk.new1 w _ _ _
  have hz : W0.heap.size = w.heap.size + 2 := by rw [← hW0]; simp
  have hn := ext_some W0
  have hc : ∀ (u : Ext W0) (o : Nat), u.w.cell? ⟨w.heap.size, o, none⟩ = #[Value.string ⟨l.toArray⟩, Value.string ⟨d.toArray⟩][o]? := fun u o => (ext_cell W0 u _ _ (by omega)).trans (hB1.cell o)
  have hc2 : ∀ (u : Ext W0) (o : Nat), u.w.cell? ⟨w.heap.size + 1, o, none⟩ = #[Value.string ⟨m.toArray⟩, Value.string ⟨e.toArray⟩][o]? := fun u o => (ext_cell W0 u _ _ (by omega)).trans (hB2.cell o)
  clear hB1 hB2
  by_cases h1 : l = m
  · subst h1
    by_cases h2 : d.map lowB = e.map lowB
    · go_enter Tryd.func20, Tryd.ntmps20
      go_wp2
      refine wp_region_ext (by kernel_rfl) (by kernel_rfl) ?_
      repeat (go_big_quiet_step ((go_at_call 34; exact ext_call (HS.out _ _ _ (by omega)))))
      refine wpQuiet_nil ?_
      rintro w1 ⟨⟨_, hb1⟩, rfl⟩
      go_wp2
      go_ret
      exact ⟨by simp [h2], hb0.trans (hb1.mono hb0.size)⟩
    · go_enter Tryd.func20, Tryd.ntmps20
      go_wp2
      refine wp_region_ext (by kernel_rfl) (by kernel_rfl) ?_
      repeat (go_big_quiet_step ((go_at_call 34; exact ext_call (HS.out _ _ _ (by omega)))))
      refine wpQuiet_nil ?_
      rintro w1 ⟨⟨_, hb1⟩, rfl⟩
      go_wp2
      go_ret
      exact ⟨by simp [h2], hb0.trans (hb1.mono hb0.size)⟩
  · go_enter Tryd.func20, Tryd.ntmps20
    go_wp2
    refine wp_region_ext (by kernel_rfl) (by kernel_rfl) ?_
    repeat (go_big_quiet_step ((go_at_call 34; exact ext_call (HS.out _ _ _ (by omega)))))
    refine wpQuiet_nil ?_
    rintro w1 ⟨⟨_, hb1⟩, rfl⟩
    go_wp2
    go_ret
    exact ⟨by simp [h1], hb0.trans (hb1.mono hb0.size)⟩
end Go.Proofs.YtppipfjnichikaaDoor
