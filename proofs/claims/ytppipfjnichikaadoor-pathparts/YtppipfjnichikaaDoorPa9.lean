/- The chapter's examples; PathParts; PathDots. -/
import Derived.Test.YtppipfjnichikaaDoorPa6
import Derived.Test.YtppipfjnichikaaDoorPa8
namespace Go.Proofs.YtppipfjnichikaaDoor
open Go.RowKit Go.Shelf
theorem ex_parse : parseO [60, 97, 46, 98, 64, 99, 45, 100, 46, 101, 62] = some ([97, 46, 98], [99, 45, 100, 46, 101]) := by decide
theorem ex_take : takeO [60, 62, 32, 83, 73, 90, 69, 61, 49] = some ([], [], [32, 83, 73, 90, 69, 61, 49]) := by decide
set_option maxHeartbeats 1000000 in
theorem alive_any (w : World) : Calls Tryd.prog 8 #[] w fun e w' => e = .returned (.bool true) ∧ Below w.heap.size w w' := by
  have HP : Hid (∀ w, Calls Tryd.prog 9 #[.string ⟨#[60, 97, 46, 98, 64, 99, 45, 100, 46, 101, 62]⟩] w fun e w' => e = .returned (.tuple #[.agg #[.string ⟨#[97, 46, 98]⟩, .string ⟨#[99, 45, 100, 46, 101]⟩], .nilIface]) ∧ Below w.heap.size w w') := fun w => by
    have := parse_any [60, 97, 46, 98, 64, 99, 45, 100, 46, 101, 62] w (fun _ => default) (by decide) (fun h => by rw [ex_parse] at h; cases h)
    rw [ex_parse] at this
    exact this
  have HT : Hid (∀ w, Calls Tryd.prog 10 #[.string ⟨#[60, 62, 32, 83, 73, 90, 69, 61, 49]⟩] w fun e w' => e = .returned (.tuple #[.agg #[.string ⟨#[]⟩, .string ⟨#[]⟩], .string ⟨#[32, 83, 73, 90, 69, 61, 49]⟩, .nilIface]) ∧ Below w.heap.size w w') := fun w => by
    have := take_any [60, 62, 32, 83, 73, 90, 69, 61, 49] w (fun _ => default) (by decide) (fun h => by rw [ex_take] at h; cases h)
    rw [ex_take] at this
    exact this
  go_enter Tryd.func8, Tryd.ntmps8
  go_wp2_with (first
    | (go_at_call 9; refine (HP.out _).mono ?_; rintro e w1 ⟨rfl, hb1⟩; replace hb1 := hide hb1)
    | (go_at_call 10; refine (HT.out _).mono ?_; rintro e w2 ⟨rfl, hb2⟩; have hc2 := ((Blk.new w1 #[.string ⟨#[97, 46, 98]⟩, .string ⟨#[99, 45, 100, 46, 101]⟩] 24).below hb2 (lt_size_alloc _ _)).cell; have hlt2 := lt_of_alloc hb2; replace hb2 := hide hb2))
  go_ret
  exact ⟨rfl, ((hb1.out.alloc hb1.out.size _).trans (hb2.out.mono (by simp; exact Nat.le_succ_of_le hb1.out.size))).alloc (by have := hb1.out.size; omega) _⟩
set_option maxHeartbeats 1000000 in
theorem parts_walk (s : List UInt8) (w : World) : Calls Tryd.prog 5 #[.string ⟨s.toArray⟩] w fun e w' => e = .returned (.bool true) ∧ Below w.heap.size w w' := by
  have HA := hide alive_any
  by_cases h : 2000 < s.length
  · have g : 2000 < (s.length : Int) := by omega
    go_enter Tryd.func5, Tryd.ntmps5
    go_wp2_with (first
      | (go_at_call 8; refine (HA.out _).mono ?_; rintro e w1 ⟨rfl, hb1⟩; replace hb1 := hide hb1))
    go_ret
    exact ⟨rfl, hb1.out⟩
  · have g : ¬ 2000 < (s.length : Int) := by omega
    have H1 := hide (fun w => local_any s w (by omega))
    have H2 := hide (rlocal_any s)
    have H3 := hide (fun w => dom_any s w (by omega))
    have H4 := hide (rdom_any s)
    generalize localB s = b1 at *
    generalize domB s = b2 at *
    clear h
    go_enter Tryd.func5, Tryd.ntmps5
    go_wp2_with (first
      | (go_at_call 8; refine (HA.out _).mono ?_; rintro e w1 ⟨rfl, hb1⟩; replace hb1 := hide hb1)
      | (go_at_call 16; refine (H1.out _).mono ?_; rintro e w2 ⟨rfl, hb2⟩; replace hb2 := hide hb2)
      | (go_at_call 17; refine (H2.out _).mono ?_; rintro e w3 ⟨rfl, rfl⟩)
      | (go_at_call 18; refine (H3.out _).mono ?_; rintro e w4 ⟨rfl, hb4⟩; replace hb4 := hide hb4)
      | (go_at_call 19; refine (H4.out _).mono ?_; rintro e w5 ⟨rfl, rfl⟩))
    go_ret
    exact ⟨by simp, (hb1.out.trans (hb2.out.mono hb1.out.size)).trans (hb4.out.mono (Nat.le_trans hb1.out.size hb2.out.size))⟩
end Go.Proofs.YtppipfjnichikaaDoor
