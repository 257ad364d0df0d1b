/- Spans of ranges, and whether a number is an end; texts of ends and of items. -/
import Derived.Test.YtbjencibkkhbhabGreatDoorMgSpMath
import Derived.Test.YtbjencibkkhbhabGreatDoorShelf
import Derived.Test.YtbjencibkkhbhabGreatDoorCalm
import Derived.Test.YtbjencibkkhbhabGreatDoorHd0
import Derived.Lib.Itoa
import Derived.Lib.ItoaLen
import Derived.Lib.OthersKept
set_option linter.unusedVariables false
set_option linter.unusedSimpArgs false
namespace Go.Proofs.YtbjencibkkhbhabGreatDoor
open Go.RowKit Go.Shelf
set_option maxHeartbeats 1000000 in
theorem pnumOf_any (e mx : Int) (w : World) : Calls Tryz.prog 33 #[.int .i64 e, .int .i64 mx] w fun en w' => en = .returned (.int .i64 (spE mx e)) ∧ w' = w := by
  unfold spE
  by_cases h0 : e = 0
  · subst h0
    by_cases hm : 0 < mx
    · rw [if_pos ⟨rfl, hm⟩]
      go_enter Tryz.func33, Tryz.ntmps33
      go_wp2
      go_ret
      exact ⟨rfl, rfl⟩
    · rw [if_neg (fun h => hm h.2)]
      go_enter Tryz.func33, Tryz.ntmps33
      go_wp2
      go_ret
      exact ⟨rfl, rfl⟩
  · rw [if_neg (fun h => h0 h.1)]
    have hb : (e == 0) = false := beq_eq_false_iff_ne.2 h0
    go_enter Tryz.func33, Tryz.ntmps33
    go_wp2
    go_ret
    exact ⟨rfl, rfl⟩
/-- The table by which the library writes numbers lies in this world. -/
def TabQ (w : World) : Prop := Lib.TabIs Tryz.prog w "internal/strconv.uint64pow10" .u64 Lib.pow10Tab ∧ 7 < w.heap.size
theorem tabGlobalQ : Tryz.prog.globalNamed "internal/strconv.uint64pow10" = some 7 := by kernel_rfl
theorem TabQ.below {w w' : World} (h : TabQ w) (hb : Below w.heap.size w w') : TabQ w' :=
  ⟨var?_below hb tabGlobalQ h.2 h.1, Nat.lt_of_lt_of_le h.2 hb.size⟩
theorem grow_belowQ (w : World) (k : Nat) (os : Array Obj) : Below w.heap.size w (Sort.grow (w.drewN k) os) :=
  ⟨rfl, rfl, rfl, by simp [Sort.grow], fun j hj => by simp [Sort.grow, Array.getElem?_append_left hj]⟩
theorem itoaQ (n : Nat) (h1 : n ≤ 2147483648) (w : World) (ht : TabQ w) :
    Calls Tryz.prog 91 #[.int .i64 ((n : Nat) : Int)] w fun e w' => e = .returned (.string ⟨(Lib.decDigits n).toArray⟩) ∧ Below w.heap.size w w' := by
  refine (Tryz.strconv_Itoa ((n : Nat) : Int) (by omega) (by omega) w ht.1).mono ?_
  rintro e w' ⟨rfl, k, os, rfl⟩
  refine ⟨?_, grow_belowQ w k os⟩
  have : Lib.itoa ((n : Nat) : Int) = Lib.decDigits n := by
    unfold Lib.itoa
    rw [if_neg (by omega), Int.toNat_natCast]
  rw [this]
set_option maxRecDepth 20000 in
set_option maxHeartbeats 2000000 in
theorem pspanOf_any (x y mx : Int) (w : World) : Calls Tryz.prog 21 #[.agg #[.int .i64 x, .int .i64 y], .int .i64 mx] w fun en w' => en = .returned (.agg #[.int .i64 (spn mx (x, y)).1, .int .i64 (spn mx (x, y)).2]) ∧ Below w.heap.size w w' := by
  obtain ⟨F, HF⟩ : ∃ F : Int → Int, Hid (F = spE mx) := ⟨_, hide rfl⟩
  have HZ : Hid (∀ z W, Calls Tryz.prog 33 #[.int .i64 z, .int .i64 mx] W fun en w' => en = .returned (.int .i64 (F z)) ∧ Below W.heap.size W w') := fun z W => by
    rw [HF.out]
    exact (pnumOf_any z mx W).mono fun e w' h => ⟨h.1, h.2 ▸ Below.refl _ _⟩
  show Calls _ _ _ _ fun en w' => en = .returned (.agg #[.int .i64 (min (spE mx x) (spE mx y)), .int .i64 (max (spE mx x) (spE mx y))]) ∧ _
  rw [← HF.out]
  clear HF
  obtain ⟨W0, HW0⟩ : ∃ W0, Hid ((w.alloc (.cells #[.int .i64 x, .int .i64 y] 33)).alloc (.cells #[.int .i64 0, .int .i64 0] 55) = W0) := ⟨_, hide rfl⟩
  have HB0 : Hid (Below w.heap.size w W0) := by show Below _ _ _; rw [← HW0.out]; exact ((Below.refl w.heap.size w).alloc (Nat.le_refl _) _).alloc (by simp) _
  have HK0 : Hid (Blk W0 w.heap.size #[.int .i64 x, .int .i64 y] 33) := by show Blk _ _ _ _; rw [← HW0.out]; exact (Blk.new w _ _).alloc _
  have HK1 : Hid (Blk W0 (w.heap.size + 1) #[.int .i64 0, .int .i64 0] 55) := by show Blk _ _ _ _; rw [← HW0.out]; exact Blk.new1 w _ _ _
  go_enter Tryz.func21, Tryz.ntmps21
  go_wp2
  rw [HW0.out]
  have hn := ext_some W0
  have hc0 : ∀ u : Ext W0, u.w.cell? ⟨w.heap.size, 0, none⟩ = some (.int .i64 x) := fun u => (ext_cell W0 u _ _ HK0.out.lt).trans (HK0.out.cell 0)
  have hc1 : ∀ u : Ext W0, u.w.cell? ⟨w.heap.size, 1, none⟩ = some (.int .i64 y) := fun u => (ext_cell W0 u _ _ HK0.out.lt).trans (HK0.out.cell 1)
  refine wp_region_ext (by kernel_rfl) (by kernel_rfl) ?_
  repeat (go_big_quiet_step ((go_at_call 33; exact ext_call (HZ.out _ _))))
  refine wpQuiet_nil ?_
  rintro w1 ⟨⟨_, hb1⟩, rfl⟩
  have HB1 := hide (HB0.out.trans (hb1.mono HB0.out.size))
  have HK := hide (HK1.out.below hb1 HK1.out.lt)
  clear hb1 hc0 hc1 hn HK0 HB0 HK1 HZ
  have hc := HK.out.cell
  have hf := HK.out.frozen
  go_wp2
  have h4 := ((HK.out.set 0 (.int .i64 (min (F x) (F y)))).set 1 (.int .i64 (max (F x) (F y)))).cell
  exact bodyPost_ret (v := .agg #[.int .i64 (min (F x) (F y)), .int .i64 (max (F x) (F y))]) (by simp [results, Tryz.results21, go_sem, h4]) rfl ⟨rfl, ((HB1.out.setCell (p := ⟨w.heap.size + 1, 0, none⟩) (by simp) _).setCell (p := ⟨w.heap.size + 1, 1, none⟩) (by simp) _)⟩
end Go.Proofs.YtbjencibkkhbhabGreatDoor
