/- The chapter's own case: alive; the laws CheckSums and CheckPieces. -/
import Derived.Test.YtblopcpiapenpaaCM2
import Derived.Lib.SlBytesConst
namespace Go.Proofs.Ytblopcpiapenpaa
open Go.RowKit
theorem br_lit {w : World} (bs : List UInt8) {C : Array Value} {fr : Nat × Nat} (hC : C = (bs.map bv).toArray) (hm : bs.length ≤ 1000000) : BR (w.alloc (.cells C 5 fr)) (.slice (some ⟨w.heap.size, 0, none⟩) bs.length bs.length) bs := by
  subst hC
  refine ⟨some ⟨w.heap.size, 0, none⟩, bs.length, by rw [List.length_map], by rw [List.length_map]; exact Nat.le_refl _, by simp only [maxLen]; omega, (fun h => by cases h), fun _ => ⟨w.heap.size, 0, rfl, by rw [World.size_alloc]; omega, fun j u hu => ?_⟩⟩
  rw [Nat.zero_add, World.cell?_alloc_mark, List.getElem?_toArray, hu]
theorem br_nil (w : World) : BR w (.slice none 0 0) [] := (Rw.br (bs := []) (G := none) (Rw.nil w 1))
theorem sum_abc {w : World} {v : Value} (h : BR w v [97, 98, 99]) : Calls Try.prog 10 #[v] w fun e w' => e = .returned (.int .u32 38600999) ∧ w' = w := sum_any _ v w h
set_option maxHeartbeats 1000000 in
theorem alive_yes (w : World) : Calls Try.prog 7 #[] w fun e w' => e = .returned (.bool true) ∧ Below w.heap.size w w' := by
  have hcv := fun (w0 : World) (C : Array Value) (n c : Nat) => Lib.run_convert_bytes_const (P := Try.prog) w0 23 5 C n c Try.underlying23 Try.underlying5
  go_enter Try.func7, Try.ntmps7
  go_wp2_with fail
  refine (sum_abc (br_lit [97, 98, 99] rfl (by decide))).mono ?_
  rintro e w1 ⟨rfl, rfl⟩
  go_wp2_with (go_at_call 11; refine (start_any _).mono ?_; rintro e w1 ⟨rfl, rfl⟩)
  go_ret
  exact ⟨rfl, (Below.refl _ _).alloc (Nat.le_refl _) _⟩

set_option maxHeartbeats 1000000 in
theorem sums_walk (s : Int) (hs0 : 0 ≤ s) (hs1 : s < 4294967296) (bs : List UInt8) (v : Value) (w : World) (h : BR w v bs) :
    Calls Try.prog 3 #[.int .u32 s, v] w fun e w' => e = .returned (.bool true) ∧ Below w.heap.size w w' := by
  obtain ⟨n, rfl⟩ := Int.eq_ofNat_of_zero_le hs0
  have hn : n < 4294967296 := by omega
  obtain ⟨A, c, rfl, hl, hm, _⟩ := BR.form h
  have HM : Hid (∀ (w' : World), Below w.heap.size w w' → BR w' (.slice A bs.length c) bs) := fun w' hb => h.below hb
  clear h hs0 hs1
  by_cases hb : bs.length ≤ 20000
  · have hb' : ¬ (20000 : Int) < bs.length := by omega
    have R1 : Hid (∀ (w' : World) (s : Int), s = ((1 : Nat) : Int) → Below w.heap.size w w' → Calls Try.prog 9 #[.int .u32 s, .slice A bs.length c] w' fun e w'' => e = .returned (.int .u32 (sumN 1 bs)) ∧ w'' = w') := by
      rintro w' s rfl hb
      exact rmore_any 1 (by omega) bs _ w' (HM.out w' hb)
    go_enter Try.func3, Try.ntmps3
    go_wp2_with (first | (go_at_call 7; refine (alive_yes _).mono ?_; rintro e w1 ⟨rfl, hb1⟩; replace hb1 := hide hb1) | (go_at_call 8; refine (more_any n hn bs _ _ (HM.out _ hb1.out)).mono ?_; rintro e w2 ⟨rfl, rfl⟩))
    refine (rmore_any n hn bs _ _ (HM.out _ hb1.out)).mono ?_
    rintro e w2 ⟨rfl, rfl⟩
    go_wp2_with (go_at_call 10; refine (sum_any bs _ _ (HM.out _ hb1.out)).mono ?_; rintro e w2 ⟨rfl, rfl⟩)
    refine (R1.out _ _ rfl hb1.out).mono ?_
    rintro e w2 ⟨rfl, rfl⟩
    go_wp2
    go_ret
    exact ⟨rfl, hb1.out⟩
  · have hb' : (20000 : Int) < bs.length := by omega
    go_enter Try.func3, Try.ntmps3
    go_wp2_with (go_at_call 7; refine (alive_yes _).mono ?_; rintro e w1 ⟨rfl, hb1⟩; replace hb1 := hide hb1)
    go_ret
    exact ⟨rfl, hb1.out⟩
end Go.Proofs.Ytblopcpiapenpaa
