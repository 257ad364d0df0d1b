/- A row made by make, as a row of one's own; where a row lies that isn't empty. -/
/- The chapter's own case: alive; the laws CheckSums and CheckPieces. -/
/- The program's Record; the law CheckRecords. -/
import Derived.Test.YthhnlkbjpahjeaaGreatDoorU02
import Derived.Test.YthhnlkbjpahjeaaGreatDoorU16
import Derived.Lib.SlBytesConst
import Derived.Deep.RegionWith
section
namespace Go.Proofs.YthhnlkbjpahjeaaGreatDoor
open Go.RowKit
theorem Rw.of_owns {w : World} {base : Nat} {e : TypeId} {v : Value} {n : Nat} {xs : List Value} (h : w.ownsRow base e 1 v n xs) : Rw w 1 v n xs v.ownBlock := by
  refine ⟨by rw [h.1], ?_⟩
  rcases h.2 with ⟨rfl, hn⟩ | ⟨g, cap, cur, rfl, _, hg, h1, h2, h3, h4⟩
  · exact .inl ⟨rfl, hn, rfl⟩
  · have hk : Blk w g cur e := hg
    refine .inr ⟨g, 0, cap, rfl, rfl, h1, h2, hk.lt, fun j u hu => ?_, fun j hj => ⟨?_, hk.frozen _⟩⟩
    · have hj := (List.getElem?_eq_some_iff.1 hu).1
      rw [← h4] at hu
      simp only [Nat.mul_one] at hu
      rw [hk.cell, Nat.zero_add]
      have hjn : j < n := by rw [h.1] at hj; omega
      rw [List.getElem?_take_of_lt hjn] at hu
      simpa using hu
    · rw [hk.cell, Nat.zero_add, Array.getElem?_eq_getElem (by omega)]
      rfl
theorem Rw.blk {w : World} {v : Value} {n : Nat} {cs : List Value} {G : Option Nat} (h : Rw w 1 v n cs G) (h0 : 0 < n) : ∃ g o c, G = some g ∧ v = .slice (some ⟨g, o, none⟩) n c ∧ n ≤ c ∧ g < w.heap.size ∧ (∀ j u, cs[j]? = some u → w.cell? ⟨g, o + j, none⟩ = some u) ∧ ∀ j, j < n → w.frozen? ⟨g, o + j, none⟩ = false := by
  rcases h.2 with ⟨_, h, _⟩ | ⟨g, o, c, k1, k2, h1, h2, h3, h4, h5⟩
  · omega
  · exact ⟨g, o, c, k1, k2, h1, h3, h4, fun j hj => (h5 j (by omega)).2⟩
end Go.Proofs.YthhnlkbjpahjeaaGreatDoor

end
section
namespace Go.Proofs.YthhnlkbjpahjeaaGreatDoor
open Go.RowKit
theorem br_lit {w : World} (bs : List UInt8) {C : Array Value} {fr : Nat × Nat} (hC : C = (bs.map bv).toArray) (hm : bs.length ≤ 1000000) : BR (w.alloc (.cells C 5 fr)) (.slice (some ⟨w.heap.size, 0, none⟩) bs.length bs.length) bs := by
  subst hC
  refine ⟨some ⟨w.heap.size, 0, none⟩, bs.length, by rw [List.length_map], by rw [List.length_map]; exact Nat.le_refl _, by simp only [maxLen]; omega, (fun h => by cases h), fun _ => ⟨w.heap.size, 0, rfl, by rw [World.size_alloc]; omega, fun j u hu => ?_⟩⟩
  rw [Nat.zero_add, World.cell?_alloc_mark, List.getElem?_toArray, hu]
theorem br_nil (w : World) : BR w (.slice none 0 0) [] := (Rw.br (bs := []) (G := none) (Rw.nil w 1))
theorem sum_abc {w : World} {v : Value} (h : BR w v [97, 98, 99]) : Calls Tryz.prog 75 #[v] w fun e w' => e = .returned (.int .u32 38600999) ∧ w' = w := sum_any _ v w h
end Go.Proofs.YthhnlkbjpahjeaaGreatDoor

end
section
namespace Go.Proofs.YthhnlkbjpahjeaaGreatDoor
open Go.RowKit
set_option maxRecDepth 20000 in
set_option maxHeartbeats 2000000 in
theorem append_any (n : Nat) (hn : n < 4294967296) (bs : List UInt8) (v : Value) (w0 w : World) (h : Bts w0 w v bs) (hb : bs.length ≤ 1000000) :
    Calls Tryz.prog 74 #[v, .int .u32 n] w fun e w' => ∃ v', e = .returned v' ∧ Bts w0 w' v' (bs ++ fourB n) := by
  obtain ⟨G, A, c, rfl, hr, hw, hg⟩ := h.parts
  obtain ⟨i0, hi, hz0, hz1, hz2⟩ := info_parts byteInfo
  clear h
  go_enter Tryz.func74, Tryz.ntmps74
  go_wp2_with (at_builtin; refine wpList_append_rw rfl _ _ 46 46 rfl 5 i0 (.int .u8 0) 1 1 Tryz.underlying46 hi hz0 hz1 hz2 rfl rfl (hr.out.keep (S := fun _ => False) ((Mvs.refl _ _).alloc _) (fun _ _ c => c)) _ 4 ((fourB n).map bv) rfl (src_lit (fourB n) (four_cells n hn) rfl) (by simp only [maxLen] <;> omega) (by omega) ?_)
  intro v4 w4 G4 hr4 hm4 hg4
  have T4 := hide (Bts.grow (news := fourB n) (hw.out.alloc hw.out.size _) hg.out rfl rfl hr4 hm4 (by simpa using hg4))
  clear hr4 hm4 hg4 hi hz0 hz1 hz2
  go_wp2
  go_ret
  exact ⟨_, rfl, T4.out⟩

set_option maxRecDepth 20000 in
set_option maxHeartbeats 2000000 in
theorem record_any (bs : List UInt8) (v : Value) (w : World) (h : BR w v bs) (hb : bs.length ≤ 400000) :
    Calls Tryz.prog 41 #[v] w fun e w' => ∃ v', e = .returned (.tuple #[v', .nilIface]) ∧ Bts w w' v' (recB bs) := by
  obtain ⟨A, c, rfl, hl, hm, _⟩ := BR.form h
  have HB : Hid (∀ (w' : World), Below w.heap.size w w' → BR w' (.slice A bs.length c) bs) := fun w' hb => h.below hb
  have hsum := sumN_lt 1 bs
  have hb' : ¬ (400000 : Int) < bs.length := by omega
  clear h
  obtain ⟨i0, hi, hz0, hz1, hz2⟩ := info_parts byteInfo
  go_enter Tryz.func41, Tryz.ntmps41
  go_wp2_with (at_make; refine wpList_make_own w rfl _ _ 46 rfl w.heap.size 5 i0 (.int .u8 0) 1 Tryz.underlying46 hi hz0 hz1 .i64 .i64 _ (8 + bs.length) rfl rfl (by omega) (by rw [hz2]; omega) (by simp only [maxLen]; omega) (Nat.le_refl _) ?_)
  intro w1 how1 hgr1
  have T1 : Hid (Bts w w1 (.slice (some ⟨w.heap.size, 0, none⟩) 0 (8 + bs.length)) []) := ⟨⟨hgr1.os, hgr1.tape, hgr1.output, hgr1.size, fun k hk => hgr1.block k hk (by simp)⟩, some w.heap.size, Rw.of_owns how1, fun g hg => by cases hg; exact Nat.le_refl _⟩
  clear how1 hgr1
  go_wp2_with fail
  refine (append_any bs.length (by omega) [] _ w w1 T1.out (by simp)).mono ?_
  rintro e w2 ⟨v2, rfl, T2⟩
  have hw2 := hide T2.1
  replace T2 := hide T2
  go_wp2_with (go_at_call 75; refine (sum_any bs _ _ (HB.out _ hw2.out)).mono ?_; rintro e w3 ⟨rfl, rfl⟩)
  refine (append_any (sumN 1 bs) hsum _ _ w _ T2.out (by simp [fourB_length])).mono ?_
  rintro e w3 ⟨v3, rfl, T3⟩
  clear T1 T2
  obtain ⟨G5, A5, c5, rfl, T5r, T5b, T5g⟩ := T3.parts
  clear T3
  go_wp2_with (at_builtin; refine wpList_append_rw rfl _ _ 46 46 rfl 5 i0 (.int .u8 0) 1 1 Tryz.underlying46 hi hz0 hz1 hz2 rfl rfl T5r.out _ bs.length (bs.map bv) rfl (BR.src (HB.out _ T5b.out)) (by simp only [maxLen, List.nil_append, List.length_append, fourB_length] <;> omega) (by simp only [List.nil_append, List.length_append, fourB_length] <;> omega) ?_)
  intro v6 w6 G6 hr6 hm6 hg6
  have T6 := hide (Bts.grow (bs := fourB bs.length ++ fourB (sumN 1 bs)) (news := bs) T5b.out T5g.out rfl rfl (by simpa using hr6) hm6 hg6)
  clear hr6 hm6 hg6 hi hz0 hz1 hz2
  go_wp2
  go_ret2
  exact ⟨_, rfl, T6.out⟩

theorem bts_conv {w wr w' : World} {v : Value} {bs : List UInt8} (h : Bts w wr v bs) (hb : Below wr.heap.size wr w') : (convert 46 9 v).run Tryz.prog w' = .ok (.string ⟨bs.toArray⟩) w' := BR.convert (h.br.below hb)
end Go.Proofs.YthhnlkbjpahjeaaGreatDoor

end
