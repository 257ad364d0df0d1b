/- The law LinesSplits. -/
import Derived.Test.YtkcailfpanmhdaaDoorLSame
namespace Go.Proofs.YtkcailfpanmhdaaDoor
open Go.RowKit
theorem texts_keep {w w1 w2 : World} {v : Value} {xs : List (List UInt8)} (h : Texts w w1 v xs) (hb : Below w1.heap.size w1 w2) : Texts w w2 v xs := by
  obtain ⟨h1, G, h2, h3⟩ := h
  exact ⟨h1.trans (hb.mono h1.size), G, h2.keep (S := fun _ => False) (Mvs.of_below hb) (fun _ _ c => c), h3⟩

set_option maxRecDepth 20000 in
set_option maxHeartbeats 1000000 in
theorem splits_walk (l : List UInt8) (w : World) :
    Calls Tryd.prog 5 #[.string ⟨l.toArray⟩] w fun e w' => e = .returned (.bool true) ∧ Below w.heap.size w w' := by
  by_cases hl : 20000 < l.length
  · have hl' : (20000 : Int) < l.length := by omega
    go_enter Tryd.func5, Tryd.ntmps5
    go_wp2_with (go_at_call 7; refine (alive_yes _).mono ?_; rintro e w1 ⟨rfl, hb1⟩; replace hb1 := hide hb1)
    go_ret
    exact ⟨rfl, hb1.out⟩
  · have hl' : ¬ (20000 : Int) < l.length := by omega
    have hl2 : l.length ≤ 20000 := by omega
    go_enter Tryd.func5, Tryd.ntmps5
    go_wp2_with (first
      | (go_at_call 7; refine (alive_yes _).mono ?_; rintro e w1 ⟨rfl, hb1⟩; replace hb1 := hide hb1)
      | (go_at_call 20; refine (split_any l _ hl2).mono ?_; rintro e w2 ⟨v2, rfl, ht2⟩; replace ht2 := hide ht2)
      | (go_at_call 22; refine (rsplit_any l _ hl2).mono ?_; rintro e w3 ⟨v3, rfl, ht3⟩; replace ht3 := hide ht3))
    have hb3 : Hid (Below w2.heap.size w2 w3) := ht3.out.1
    obtain ⟨_, G2, h2, _⟩ := (texts_keep ht2.out hb3.out)
    obtain ⟨_, G3, h3, _⟩ := ht3.out
    have hsl := splitS_len l
    refine (same_any (splitS l) v2 v3 G2 G3 w3 h2 h3 (by omega)).mono ?_
    rintro e w4 ⟨rfl, hb4⟩
    replace h2 := hide (h2.keep (S := fun _ => False) (Mvs.of_below hb4) (fun _ _ c => c))
    replace hb4 := hide hb4
    have hfl : Hid ((splitS l).flatten.length ≤ 20000) := by
      show _ ≤ _
      rw [splitS_flat]
      exact hl2
    clear h3
    go_wp2_with (go_at_call 23; refine (join_any (splitS l) v2 G2 _ h2.out (by omega) hfl.out).mono ?_; rw [splitS_flat]; rintro e w5 ⟨rfl, hb5⟩; replace hb5 := hide hb5)
    go_ret
    refine ⟨rfl, ?_⟩
    have b2 := hb1.out.trans (ht2.out.1.mono hb1.out.size)
    have b3 := b2.trans (hb3.out.mono b2.size)
    have b4 := b3.trans (hb4.out.mono b3.size)
    exact b4.trans (hb5.out.mono b4.size)
end Go.Proofs.YtkcailfpanmhdaaDoor
