/- Spans of ranges, and whether a number is an end; texts of ends and of items. -/
import Derived.Test.YtbjencibkkhbhaaGreatDoorMgSpMath
import Derived.Test.YtbjencibkkhbhaaGreatDoorShelf
import Derived.Test.YtbjencibkkhbhaaGreatDoorCalm
import Derived.Test.YtbjencibkkhbhaaGreatDoorHd0
import Derived.Lib.Itoa
import Derived.Lib.ItoaLen
import Derived.Lib.OthersKept
set_option linter.unusedVariables false
set_option linter.unusedSimpArgs false
namespace Go.Proofs.YtbjencibkkhbhaaGreatDoor
open Go.RowKit Go.Shelf
set_option maxHeartbeats 1000000 in
theorem pnumOf_any (e mx : Int) (w : World) : Calls Tryz.prog 56 #[.int .i64 e, .int .i64 mx] w fun en w' => en = .returned (.int .i64 (spE mx e)) ∧ w' = w := by
  unfold spE
  by_cases h0 : e = 0
  · subst h0
    by_cases hm : 0 < mx
    · rw [if_pos ⟨rfl, hm⟩]
      go_enter Tryz.func56, Tryz.ntmps56
      go_wp2
      go_ret
      exact ⟨rfl, rfl⟩
    · rw [if_neg (fun h => hm h.2)]
      go_enter Tryz.func56, Tryz.ntmps56
      go_wp2
      go_ret
      exact ⟨rfl, rfl⟩
  · rw [if_neg (fun h => h0 h.1)]
    have hb : (e == 0) = false := beq_eq_false_iff_ne.2 h0
    go_enter Tryz.func56, Tryz.ntmps56
    go_wp2
    go_ret
    exact ⟨rfl, rfl⟩
set_option maxHeartbeats 1000000 in
theorem pisEnd_any (n : Int) (w : World) : Calls Tryz.prog 30 #[.int .i64 n] w fun en w' => en = .returned (.bool (decide (0 ≤ n) && decide (n ≤ 2147483648))) ∧ w' = w := by
  by_cases h0 : (0 : Int) ≤ n
  · by_cases h1 : n ≤ 2147483648
    · rw [decide_eq_true h0, decide_eq_true h1]
      go_enter Tryz.func30, Tryz.ntmps30
      go_wp2
      go_ret
      exact ⟨rfl, rfl⟩
    · rw [decide_eq_true h0, decide_eq_false h1]
      go_enter Tryz.func30, Tryz.ntmps30
      go_wp2
      go_ret
      exact ⟨rfl, rfl⟩
  · rw [decide_eq_false h0]
    go_enter Tryz.func30, Tryz.ntmps30
    go_wp2
    go_ret
    exact ⟨rfl, rfl⟩
/-- The table by which the library writes numbers lies in this world. -/
def TabQ (w : World) : Prop := Lib.TabIs Tryz.prog w "internal/strconv.uint64pow10" .u64 Lib.pow10Tab ∧ 19 < w.heap.size
theorem tabGlobalQ : Tryz.prog.globalNamed "internal/strconv.uint64pow10" = some 19 := by kernel_rfl
theorem TabQ.below {w w' : World} (h : TabQ w) (hb : Below w.heap.size w w') : TabQ w' :=
  ⟨var?_below hb tabGlobalQ h.2 h.1, Nat.lt_of_lt_of_le h.2 hb.size⟩
theorem grow_belowQ (w : World) (k : Nat) (os : Array Obj) : Below w.heap.size w (Sort.grow (w.drewN k) os) :=
  ⟨rfl, rfl, rfl, by simp [Sort.grow], fun j hj => by simp [Sort.grow, Array.getElem?_append_left hj]⟩
theorem itoaQ (n : Nat) (h1 : n ≤ 2147483648) (w : World) (ht : TabQ w) :
    Calls Tryz.prog 71 #[.int .i64 ((n : Nat) : Int)] w fun e w' => e = .returned (.string ⟨(Lib.decDigits n).toArray⟩) ∧ Below w.heap.size w w' := by
  refine (Tryz.strconv_Itoa ((n : Nat) : Int) (by omega) (by omega) w ht.1).mono ?_
  rintro e w' ⟨rfl, k, os, rfl⟩
  refine ⟨?_, grow_belowQ w k os⟩
  have : Lib.itoa ((n : Nat) : Int) = Lib.decDigits n := by
    unfold Lib.itoa
    rw [if_neg (by omega), Int.toNat_natCast]
  rw [this]
set_option maxHeartbeats 1000000 in
theorem pendText_any (n : Nat) (h1 : n ≤ 2147483648) (w : World) (ht : TabQ w) :
    Calls Tryz.prog 51 #[.int .i64 ((n : Nat) : Int)] w fun e w' => e = .returned (.string ⟨(sqT1 n).toArray⟩) ∧ Below w.heap.size w w' := by
  have HI := hide (itoaQ n h1 w ht)
  unfold sqT1
  by_cases h0 : n = 0
  · subst h0
    rw [if_pos rfl]
    clear HI
    go_enter Tryz.func51, Tryz.ntmps51
    go_wp2
    go_ret
    exact ⟨rfl, Below.refl _ _⟩
  · rw [if_neg h0]
    have hb : (((n : Nat) : Int) == 0) = false := beq_eq_false_iff_ne.2 (by omega)
    generalize Lib.decDigits n = t at *
    go_enter Tryz.func51, Tryz.ntmps51
    go_wp2_with (go_at_call 71; refine HI.out.mono ?_; rintro e w1 ⟨rfl, hb1⟩; replace hb1 := hide hb1)
    go_ret
    exact ⟨rfl, hb1.out⟩
set_option maxRecDepth 20000 in
set_option maxHeartbeats 2000000 in
theorem pspanOf_any (x y mx : Int) (w : World) : Calls Tryz.prog 36 #[.agg #[.int .i64 x, .int .i64 y], .int .i64 mx] w fun en w' => en = .returned (.agg #[.int .i64 (spn mx (x, y)).1, .int .i64 (spn mx (x, y)).2]) ∧ Below w.heap.size w w' := by
  obtain ⟨F, HF⟩ : ∃ F : Int → Int, Hid (F = spE mx) := ⟨_, hide rfl⟩
  have HZ : Hid (∀ z W, Calls Tryz.prog 56 #[.int .i64 z, .int .i64 mx] W fun en w' => en = .returned (.int .i64 (F z)) ∧ Below W.heap.size W w') := fun z W => by
    rw [HF.out]
    exact (pnumOf_any z mx W).mono fun e w' h => ⟨h.1, h.2 ▸ Below.refl _ _⟩
  show Calls _ _ _ _ fun en w' => en = .returned (.agg #[.int .i64 (min (spE mx x) (spE mx y)), .int .i64 (max (spE mx x) (spE mx y))]) ∧ _
  rw [← HF.out]
  clear HF
  obtain ⟨W0, HW0⟩ : ∃ W0, Hid ((w.alloc (.cells #[.int .i64 x, .int .i64 y] 53)).alloc (.cells #[.int .i64 0, .int .i64 0] 65) = W0) := ⟨_, hide rfl⟩
  have HB0 : Hid (Below w.heap.size w W0) := by show Below _ _ _; rw [← HW0.out]; exact ((Below.refl w.heap.size w).alloc (Nat.le_refl _) _).alloc (by simp) _
  have HK0 : Hid (Blk W0 w.heap.size #[.int .i64 x, .int .i64 y] 53) := by show Blk _ _ _ _; rw [← HW0.out]; exact (Blk.new w _ _).alloc _
  have HK1 : Hid (Blk W0 (w.heap.size + 1) #[.int .i64 0, .int .i64 0] 65) := by show Blk _ _ _ _; rw [← HW0.out]; exact Blk.new1 w _ _ _
  go_enter Tryz.func36, Tryz.ntmps36
  go_wp2
  rw [HW0.out]
  have hn := ext_some W0
  have hc0 : ∀ u : Ext W0, u.w.cell? ⟨w.heap.size, 0, none⟩ = some (.int .i64 x) := fun u => (ext_cell W0 u _ _ HK0.out.lt).trans (HK0.out.cell 0)
  have hc1 : ∀ u : Ext W0, u.w.cell? ⟨w.heap.size, 1, none⟩ = some (.int .i64 y) := fun u => (ext_cell W0 u _ _ HK0.out.lt).trans (HK0.out.cell 1)
  refine wp_region_ext (by kernel_rfl) (by kernel_rfl) ?_
  repeat (go_big_quiet_step ((go_at_call 56; exact ext_call (HZ.out _ _))))
  refine wpQuiet_nil ?_
  rintro w1 ⟨⟨_, hb1⟩, rfl⟩
  have HB1 := hide (HB0.out.trans (hb1.mono HB0.out.size))
  have HK := hide (HK1.out.below hb1 HK1.out.lt)
  clear hb1 hc0 hc1 hn HK0 HB0 HK1 HZ
  have hc := HK.out.cell
  have hf := HK.out.frozen
  go_wp2
  have h4 := ((HK.out.set 0 (.int .i64 (min (F x) (F y)))).set 1 (.int .i64 (max (F x) (F y)))).cell
  exact bodyPost_ret (v := .agg #[.int .i64 (min (F x) (F y)), .int .i64 (max (F x) (F y))]) (by simp [results, Tryz.results36, go_sem, h4]) rfl ⟨rfl, ((HB1.out.setCell (p := ⟨w.heap.size + 1, 0, none⟩) (by simp) _).setCell (p := ⟨w.heap.size + 1, 1, none⟩) (by simp) _)⟩
set_option maxRecDepth 20000 in
set_option maxHeartbeats 2000000 in
theorem pitemOf_any (x y : Nat) (hx : x ≤ 2147483648) (hy : y ≤ 2147483648) (w : World) (ht : TabQ w) :
    Calls Tryz.prog 31 #[.agg #[.int .i64 ((x : Nat) : Int), .int .i64 ((y : Nat) : Int)]] w fun e w' => e = .returned (.string ⟨(sqTI (x, y)).toArray⟩) ∧ Below w.heap.size w w' := by
  have HX := hide (fun W hW => pendText_any x hx W (ht.below hW))
  have HY := hide (fun W hW => pendText_any y hy W (ht.below hW))
  have hlx := sqT1_len hx
  have hly := sqT1_len hy
  have HB0 := hide ((Below.refl w.heap.size w).alloc (Nat.le_refl _) (.cells #[.int .i64 ((x : Nat) : Int), .int .i64 ((y : Nat) : Int)] 53))
  have HK := hide (Blk.new w #[.int .i64 ((x : Nat) : Int), .int .i64 ((y : Nat) : Int)] 53)
  have HV : Hid (sqTI (x, y) = if x = y then sqT1 x else sqT1 x ++ 58 :: sqT1 y) := rfl
  clear ht
  obtain ⟨W0, HW0⟩ : ∃ W0, Hid (w.alloc (.cells #[.int .i64 ((x : Nat) : Int), .int .i64 ((y : Nat) : Int)] 53) = W0) := ⟨_, hide rfl⟩
  rw [HW0.out] at HB0 HK
  have q0 := HK.out.cell 0
  have q1 := HK.out.cell 1
  have hsx := size_lit (sqT1 x)
  have hsy := size_lit (sqT1 y)
  generalize sqTI (x, y) = T at *
  by_cases h : x = y
  · have hv := HV.out
    rw [if_pos h] at hv
    subst hv
    subst h
    generalize sqT1 x = t at *
    have hb : (((x : Nat) : Int) == ((x : Nat) : Int)) = true := beq_iff_eq.2 rfl
    go_enter Tryz.func31, Tryz.ntmps31
    go_wp2_with (first
      | (go_at_call 51; rw [HW0.out]; refine (HX.out _ HB0.out).mono ?_; rintro e w1 ⟨rfl, hb1⟩; replace hb1 := hide hb1))
    go_ret
    exact ⟨rfl, HB0.out.trans (hb1.out.mono HB0.out.size)⟩
  · have hv := HV.out
    rw [if_neg h] at hv
    subst hv
    have hb : (((x : Nat) : Int) == ((y : Nat) : Int)) = false := beq_eq_false_iff_ne.2 (by omega)
    generalize sqT1 x = t at *
    generalize sqT1 y = u at *
    have hn := ext_some W0
    have hc0 : ∀ v : Ext W0, v.w.cell? ⟨w.heap.size, 0, none⟩ = some (.int .i64 ((x : Nat) : Int)) := fun v => (ext_cell W0 v _ _ HK.out.lt).trans (HK.out.cell 0)
    have hc1 : ∀ v : Ext W0, v.w.cell? ⟨w.heap.size, 1, none⟩ = some (.int .i64 ((y : Nat) : Int)) := fun v => (ext_cell W0 v _ _ HK.out.lt).trans (HK.out.cell 1)
    have HX' : Hid (∀ v : Ext W0, Calls Tryz.prog 51 #[.int .i64 ((x : Nat) : Int)] v.w fun e w' => e = .returned (.string ⟨t.toArray⟩) ∧ Below v.w.heap.size v.w w') := fun v => HX.out _ (HB0.out.trans (v.ok.mono HB0.out.size))
    have HY' : Hid (∀ v : Ext W0, Calls Tryz.prog 51 #[.int .i64 ((y : Nat) : Int)] v.w fun e w' => e = .returned (.string ⟨u.toArray⟩) ∧ Below v.w.heap.size v.w w') := fun v => HY.out _ (HB0.out.trans (v.ok.mono HB0.out.size))
    clear HX HY
    go_enter Tryz.func31, Tryz.ntmps31
    go_wp2
    rw [HW0.out]
    refine wp_region_ext (by kernel_rfl) (by kernel_rfl) ?_
    repeat (go_big_quiet_step ((first
      | (go_at_call 51; exact ext_call (HX'.out _))
      | (go_at_call 51; exact ext_call (HY'.out _)))))
    refine wpQuiet_nil ?_
    rintro w1 ⟨⟨_, hb1⟩, rfl⟩
    go_wp2
    go_ret
    exact ⟨by rw [show (⟨t.toArray⟩ : ByteArray) ++ ⟨#[58]⟩ ++ ⟨u.toArray⟩ = ⟨(t ++ 58 :: u).toArray⟩ from ByteArray.ext (by simp)]; rfl, HB0.out.trans (hb1.mono HB0.out.size)⟩
end Go.Proofs.YtbjencibkkhbhaaGreatDoor
