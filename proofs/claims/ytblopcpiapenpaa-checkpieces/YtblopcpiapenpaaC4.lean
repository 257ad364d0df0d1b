/- The law CheckPieces. -/
import Derived.Test.YtblopcpiapenpaaC3
namespace Go.Proofs.Ytblopcpiapenpaa
open Go.RowKit
set_option maxRecDepth 20000 in
set_option maxHeartbeats 2000000 in
theorem pieces_walk (xs bs : List UInt8) (v1 v2 : Value) (w : World) (h1 : BR w v1 xs) (h2 : BR w v2 bs) :
    Calls Try.prog 4 #[v1, v2] w fun e w' => e = .returned (.bool true) ∧ Below w.heap.size w w' := by
  obtain ⟨A1, c1, rfl, hl1, hm1, _⟩ := BR.form h1
  obtain ⟨A2, c2, rfl, hl2, hm2, _⟩ := BR.form h2
  have HA : Hid (∀ (w' : World), Below w.heap.size w w' → BR w' (.slice A1 xs.length c1) xs) := fun w' hb => h1.below hb
  have HB : Hid (∀ (w' : World), Below w.heap.size w w' → BR w' (.slice A2 bs.length c2) bs) := fun w' hb => h2.below hb
  clear h1 h2
  by_cases hb : xs.length ≤ 20000 ∧ bs.length ≤ 20000
  · obtain ⟨hb1, hb2⟩ := hb
    have hb1' : ¬ (20000 : Int) < xs.length := by omega
    have hb2' : ¬ (20000 : Int) < bs.length := by omega
    have R1 : Hid (∀ (w' : World), Below w.heap.size w w' → Calls Try.prog 8 #[.int .u32 (sumN 1 xs), .slice A2 bs.length c2] w' fun e w'' => e = .returned (.int .u32 (sumN 1 (xs ++ bs))) ∧ w'' = w') := by
      intro w' hb
      have := more_any (sumN 1 xs) (sumN_lt _ _) bs _ w' (HB.out w' hb)
      rwa [sumN_more] at this
    have R0 : Hid (∀ (w' : World), Calls Try.prog 10 #[.slice none 0 0] w' fun e w'' => e = .returned (.int .u32 1) ∧ w'' = w') := fun w' => sum_any [] _ w' (br_nil w')
    obtain ⟨i0, hi, hz0, hz1, hz2⟩ := info_parts byteInfo
    go_enter Try.func4, Try.ntmps4
    go_wp2_with (go_at_call 7; refine (alive_yes _).mono ?_; rintro e w1 ⟨rfl, hw1⟩; replace hw1 := hide hw1)
    refine (sum_any xs _ _ (HA.out _ hw1.out)).mono ?_
    rintro e w2 ⟨rfl, rfl⟩
    go_wp2_with (first | (go_at_call 8; refine (R1.out _ hw1.out).mono ?_; rintro e w2 ⟨rfl, rfl⟩) | (at_builtin; refine wpList_append_rw rfl _ _ 23 23 rfl 5 i0 (.int .u8 0) 1 1 Try.underlying23 hi hz0 hz1 hz2 rfl rfl (Rw.new (e := 5) [] [] (Blk.new _ _ _) rfl rfl (Nat.le_refl _) (Nat.zero_le _)) _ xs.length (xs.map bv) rfl (BR.src (HA.out _ (hw1.out.alloc hw1.out.size _))) (by simp only [maxLen]; omega) (by omega) ?_))
    intro v3 w3 G3 hr3 hm3 hg3
    have T3 : Bts w w3 v3 xs := Bts.first hw1.out (by simpa using hr3) (by simpa using hm3) (by simpa using hg3)
    clear hr3 hm3 hg3
    obtain ⟨G, A, c, rfl, T3r, T3b, T3g⟩ := T3.parts
    replace T3 := hide T3
    go_wp2_with (at_builtin; refine wpList_append_rw rfl _ _ 23 23 rfl 5 i0 (.int .u8 0) 1 1 Try.underlying23 hi hz0 hz1 hz2 rfl rfl T3r.out _ bs.length (bs.map bv) rfl (BR.src (HB.out _ T3b.out)) (by simp only [maxLen]; omega) (by omega) ?_)
    intro v4 w4 G4 hr4 hm4 hg4
    have T4 := hide (Bts.grow (news := bs) T3b.out T3g.out rfl rfl hr4 hm4 hg4)
    clear hr4 hm4 hg4 hi hz0 hz1 hz2
    go_wp2_with fail
    refine (sum_any (xs ++ bs) _ _ T4.out.br).mono ?_
    rintro e w5 ⟨rfl, rfl⟩
    go_wp2_with (first | (go_at_call 10; refine (R0.out _).mono ?_; rintro e w2 ⟨rfl, rfl⟩) | (go_at_call 11; refine (start_any _).mono ?_; rintro e w2 ⟨rfl, rfl⟩))
    go_ret
    exact ⟨rfl, T4.out.1⟩
  · have hb3 : (20000 : Int) < xs.length ∨ (20000 : Int) < bs.length := by omega
    go_enter Try.func4, Try.ntmps4
    go_wp2_with (go_at_call 7; refine (alive_yes _).mono ?_; rintro e w1 ⟨rfl, hw1⟩; replace hw1 := hide hw1)
    all_goals go_ret
    all_goals exact ⟨rfl, hw1.out⟩
end Go.Proofs.Ytblopcpiapenpaa
