/- alive of section's statements. -/
import Derived.Test.YtnokanmcgpjkmaaGreatDoorSe8
set_option linter.unusedVariables false
namespace Go.Proofs.YtnokanmcgpjkmaaGreatDoor
open Go.RowKit Go.Shelf
theorem ex_prg : prgO [49, 46, 50, 46, 109, 105, 109, 101] = some ⟨[1, 2], [77, 73, 77, 69], []⟩ := by kernel_rfl
set_option maxHeartbeats 1000000 in
theorem alive12 (w : World) : Calls Tryz.prog 7 #[] w fun e w' => e = .returned (.bool true) ∧ Below w.heap.size w w' := by
  have HP := hide (fun W => secParse_any [49, 46, 50, 46, 109, 105, 109, 101] W ⟨0, 0, none⟩ (by simp) (fun h => by rw [ex_prg] at h; cases h))
  rw [ex_prg] at HP
  have HQ := hide (fun W => partial_any [97, 98, 99] 1 5 W (by simp))
  have hv : parV [97, 98, 99] 1 5 = [98, 99] := by decide
  rw [hv] at HQ
  clear hv
  go_enter Tryz.func7, Tryz.ntmps7
  go_wp2_with (first
    | (go_at_call 8; refine (HP.out _).mono ?_; rintro e w1 ⟨pv, nv, rfl, hs, hb1⟩; obtain ⟨A, c, rfl⟩ := hs.path.form; obtain ⟨A2, c2, rfl⟩ := hs.names.form; clear hs; unfold spV; simp only [List.length_cons, List.length_nil]; replace hb1 := hide hb1)
    | (go_at_call 27; refine (HQ.out _).mono ?_; rintro e w2 ⟨rfl, rfl⟩))
  go_ret
  exact ⟨rfl, hb1.out.alloc hb1.out.size _⟩
end Go.Proofs.YtnokanmcgpjkmaaGreatDoor
