/- The program's Record; the law CheckRecords. -/
import Derived.Test.YtblopcpiapenpaaDoorCN
import Derived.Test.YtblopcpiapenpaaDoorCO
import Derived.Test.YtblopcpiapenpaaDoorC3
import Derived.Deep.RegionWith
namespace Go.Proofs.YtblopcpiapenpaaDoor
open Go.RowKit
set_option maxRecDepth 20000 in
set_option maxHeartbeats 2000000 in
theorem append_any (n : Nat) (hn : n < 4294967296) (bs : List UInt8) (v : Value) (w0 w : World) (h : Bts w0 w v bs) (hb : bs.length ≤ 1000000) :
    Calls Tryd.prog 11 #[v, .int .u32 n] w fun e w' => ∃ v', e = .returned v' ∧ Bts w0 w' v' (bs ++ fourB n) := by
  obtain ⟨G, A, c, rfl, hr, hw, hg⟩ := h.parts
  obtain ⟨i0, hi, hz0, hz1, hz2⟩ := info_parts byteInfo
  clear h
  go_enter Tryd.func11, Tryd.ntmps11
  go_wp2_with (at_builtin; refine wpList_append_rw rfl _ _ 22 22 rfl 5 i0 (.int .u8 0) 1 1 Tryd.underlying22 hi hz0 hz1 hz2 rfl rfl (hr.out.keep (S := fun _ => False) ((Mvs.refl _ _).alloc _) (fun _ _ c => c)) _ 4 ((fourB n).map bv) rfl (src_lit (fourB n) (four_cells n hn) rfl) (by simp only [maxLen] <;> omega) (by omega) ?_)
  intro v4 w4 G4 hr4 hm4 hg4
  have T4 := hide (Bts.grow (news := fourB n) (hw.out.alloc hw.out.size _) hg.out rfl rfl hr4 hm4 (by simpa using hg4))
  clear hr4 hm4 hg4 hi hz0 hz1 hz2
  go_wp2
  go_ret
  exact ⟨_, rfl, T4.out⟩

set_option maxRecDepth 20000 in
set_option maxHeartbeats 2000000 in
theorem record_any (bs : List UInt8) (v : Value) (w : World) (h : BR w v bs) (hb : bs.length ≤ 400000) :
    Calls Tryd.prog 6 #[v] w fun e w' => ∃ v', e = .returned (.tuple #[v', .nilIface]) ∧ Bts w w' v' (recB bs) := by
  obtain ⟨A, c, rfl, hl, hm, _⟩ := BR.form h
  have HB : Hid (∀ (w' : World), Below w.heap.size w w' → BR w' (.slice A bs.length c) bs) := fun w' hb => h.below hb
  have hsum := sumN_lt 1 bs
  have hb' : ¬ (400000 : Int) < bs.length := by omega
  clear h
  obtain ⟨i0, hi, hz0, hz1, hz2⟩ := info_parts byteInfo
  go_enter Tryd.func6, Tryd.ntmps6
  go_wp2_with (at_make; refine wpList_make_own w rfl _ _ 22 rfl w.heap.size 5 i0 (.int .u8 0) 1 Tryd.underlying22 hi hz0 hz1 .i64 .i64 _ (8 + bs.length) rfl rfl (by omega) (by rw [hz2]; omega) (by simp only [maxLen]; omega) (Nat.le_refl _) ?_)
  intro w1 how1 hgr1
  have T1 : Hid (Bts w w1 (.slice (some ⟨w.heap.size, 0, none⟩) 0 (8 + bs.length)) []) := ⟨⟨hgr1.os, hgr1.tape, hgr1.output, hgr1.size, fun k hk => hgr1.block k hk (by simp)⟩, some w.heap.size, Rw.of_owns how1, fun g hg => by cases hg; exact Nat.le_refl _⟩
  clear how1 hgr1
  go_wp2_with fail
  refine (append_any bs.length (by omega) [] _ w w1 T1.out (by simp)).mono ?_
  rintro e w2 ⟨v2, rfl, T2⟩
  have hw2 := hide T2.1
  replace T2 := hide T2
  go_wp2_with (go_at_call 9; refine (sum_any bs _ _ (HB.out _ hw2.out)).mono ?_; rintro e w3 ⟨rfl, rfl⟩)
  refine (append_any (sumN 1 bs) hsum _ _ w _ T2.out (by simp [fourB_length])).mono ?_
  rintro e w3 ⟨v3, rfl, T3⟩
  clear T1 T2
  obtain ⟨G5, A5, c5, rfl, T5r, T5b, T5g⟩ := T3.parts
  clear T3
  go_wp2_with (at_builtin; refine wpList_append_rw rfl _ _ 22 22 rfl 5 i0 (.int .u8 0) 1 1 Tryd.underlying22 hi hz0 hz1 hz2 rfl rfl T5r.out _ bs.length (bs.map bv) rfl (BR.src (HB.out _ T5b.out)) (by simp only [maxLen, List.nil_append, List.length_append, fourB_length] <;> omega) (by simp only [List.nil_append, List.length_append, fourB_length] <;> omega) ?_)
  intro v6 w6 G6 hr6 hm6 hg6
  have T6 := hide (Bts.grow (bs := fourB bs.length ++ fourB (sumN 1 bs)) (news := bs) T5b.out T5g.out rfl rfl (by simpa using hr6) hm6 hg6)
  clear hr6 hm6 hg6 hi hz0 hz1 hz2
  go_wp2
  go_ret2
  exact ⟨_, rfl, T6.out⟩

theorem bts_conv {w wr w' : World} {v : Value} {bs : List UInt8} (h : Bts w wr v bs) (hb : Below wr.heap.size wr w') : (convert 22 9 v).run Tryd.prog w' = .ok (.string ⟨bs.toArray⟩) w' := BR.convert (h.br.below hb)
set_option maxRecDepth 20000 in
set_option maxHeartbeats 4000000 in
theorem records_walk (bs : List UInt8) (v : Value) (w : World) (h : BR w v bs) :
    Calls Tryd.prog 3 #[v] w fun e w' => e = .returned (.bool true) ∧ Below w.heap.size w w' := by
  obtain ⟨A, c, rfl, hl, hm, _⟩ := BR.form h
  have HB : Hid (∀ (w' : World), Below w.heap.size w w' → BR w' (.slice A bs.length c) bs) := fun w' hb => h.below hb
  clear h
  by_cases hb : bs.length ≤ 20000
  · have hb' : ¬ (20000 : Int) < bs.length := by omega
    go_enter Tryd.func3, Tryd.ntmps3
    go_wp2_with (first | (go_at_call 5; refine (alive_yes _).mono ?_; rintro e w1 ⟨rfl, hw1⟩; replace hw1 := hide hw1))
    refine (record_any bs _ _ (HB.out _ hw1.out) (by omega)).mono ?_
    rintro e w2 ⟨v2, rfl, T2⟩
    obtain ⟨A2, c2, rfl, _⟩ := T2.br.form
    have HC : (convert 22 9 (.slice A2 (recB bs).length c2)).run Tryd.prog w2.drew = .ok (.string ⟨(recB bs).toArray⟩) w2.drew := bts_conv T2 (Below.refl _ _).drew
    have hw2 := hide (hw1.out.trans (T2.1.mono hw1.out.size)).drew
    replace T2 := hide (T2.then (Below.refl _ _).drew)
    go_wp2_with fail
    go_region_with (go_at_call 7; refine (rrecord_any bs _ _ (HB.out _ hw2.out) hb).mono ?_; rintro e w3 ⟨v3, rfl, T3⟩; obtain ⟨A3, c3, rfl, _⟩ := T3.br.form; have hcA := bts_conv T2.out T3.1; have hcB := bts_conv T3 (Below.refl _ _); replace T3 := hide T3)
    all_goals go_wp2
    all_goals go_ret
    all_goals exact ⟨rfl, hw2.out.trans (T3.out.1.mono hw2.out.size)⟩
  · have hb' : (20000 : Int) < bs.length := by omega
    go_enter Tryd.func3, Tryd.ntmps3
    go_wp2_with (go_at_call 5; refine (alive_yes _).mono ?_; rintro e w1 ⟨rfl, hw1⟩; replace hw1 := hide hw1)
    go_ret
    exact ⟨rfl, hw1.out⟩
end Go.Proofs.YtblopcpiapenpaaDoor
