/- The chapter's example holds. -/
import Derived.Test.YtcmhaihoeecjoaaGreatDoorM4
namespace Go.Proofs.YtcmhaihoeecjoaaGreatDoor
open Go.RowKit Go.Shelf
theorem ex_entry (w : World) (ht : Da.Tab w) : Calls Tryz.prog 7 #[.string ⟨#[97, 64, 98]⟩, .int .i64 0, .string ⟨#[120]⟩] w fun e w' => e = .returned (.tuple #[.string ⟨exT.toArray⟩, .nilIface]) ∧ Below w.heap.size w w' := by
  have := entry_yes [97, 64, 98] 0 [120] w (by decide) (by omega) (by omega) (by simp) ht
  rw [ex_sep, ex_enc] at this
  exact this
theorem ex_scans (w : World) : Calls Tryz.prog 13 #[.string ⟨exT.toArray⟩] w fun e w' => Below w.heap.size w w' ∧ ∃ g o cap, e = .returned (.tuple #[.slice (some ⟨g, o, none⟩) 1 cap, .nilIface]) ∧ 1 ≤ cap ∧ g < w'.heap.size ∧ w'.cell? ⟨g, o, none⟩ = some (.int .i64 0) ∧ w'.cell? ⟨g, o + 1, none⟩ = some (.int .i64 34) ∧ w'.cell? ⟨g, o + 2, none⟩ = some (.int .i64 36) := by
  refine (scan_any exT w (fun _ => ⟨0, 0, none⟩) (by decide) (fun h => by rw [ex_scan] at h; cases h)).mono ?_
  rintro e w' ⟨hb, hm⟩
  rw [ex_scan] at hm
  obtain ⟨v, rfl, hsp⟩ := hm
  obtain ⟨g, o, cap, rfl, q1, q2, q3, q4, q5, q6, q7, _⟩ := hsp.read 0 (by decide)
  exact ⟨hb, g, o, cap, rfl, q1, q4, q5, q6, q7⟩
set_option maxRecDepth 8000 in
set_option maxHeartbeats 1000000 in
theorem alive7 (w : World) (ht : Da.Tab w) : Calls Tryz.prog 6 #[] w fun e w' => e = .returned (.bool true) ∧ Below w.heap.size w w' := by
  have HT := hide ht
  clear ht
  go_enter Tryz.func6, Tryz.ntmps6
  go_wp2_with (first
    | (go_at_call 7; refine (ex_entry _ HT.out).mono ?_; rintro e w1 ⟨rfl, hb1⟩; replace hb1 := hide hb1)
    | (go_at_call 13; refine (ex_scans _).mono ?_; rintro e w2 ⟨hb2, g, o, cap, rfl, q1, q2, q3, q4, q5⟩; replace hb2 := hide hb2))
  go_ret
  exact ⟨by simp, hb1.out.trans (hb2.out.mono hb1.out.size)⟩
end Go.Proofs.YtcmhaihoeecjoaaGreatDoor
