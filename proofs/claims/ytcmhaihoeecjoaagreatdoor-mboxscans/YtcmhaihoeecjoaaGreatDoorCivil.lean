/- dates.Civil at every moment, and the statements' example. -/
import Derived.Test.YtcmhaihoeecjoaaGreatDoorDateOf
namespace Go.Proofs.YtcmhaihoeecjoaaGreatDoor.Da
open Go.RowKit

set_option maxHeartbeats 1000000 in
theorem civil_yes (t : Int) (w : World) (h0 : 0 ≤ t) (h1 : t ≤ 4102444799) :
    Calls Tryz.prog 95 #[.int .i64 t] w fun e w' => e = .returned (.tuple #[.agg #[.int .i64 (Cal.cy (t / 86400)), .int .i64 (Cal.cm (t / 86400)), .int .i64 (Cal.cd (t / 86400)),
      .int .i64 (t % 86400 / 3600), .int .i64 (t % 3600 / 60), .int .i64 (t % 60), .int .i64 ((4 + t / 86400) % 7)], .nilIface]) ∧ Below w.heap.size w w' := by
  have hb : btw t 0 4102444799 = true := btw_mk h0 h1
  go_enter Tryz.func95, Tryz.ntmps95
  go_wp2_with (go_at_call 117; refine (inRange_any _ _).mono ?_; rintro e w' ⟨rfl, rfl⟩)
  refine (dateOf_yes _ _ (by omega) (by omega)).mono ?_
  rintro e w1 ⟨rfl, hb1⟩
  obtain ⟨hc, hf⟩ := bcell hb1
  have hz : w.heap.size < w1.heap.size := by have := hb1.size; simp at this; omega
  simp only [World.size_alloc] at hc hf
  go_wp2
  refine bodyPost_ret (v := .tuple #[.agg #[.int .i64 (Cal.cy (t / 86400)), .int .i64 (Cal.cm (t / 86400)), .int .i64 (Cal.cd (t / 86400)),
      .int .i64 (t % 86400 / 3600), .int .i64 (t % 3600 / 60), .int .i64 (t % 60), .int .i64 ((4 + t / 86400) % 7)], .nilIface]) (by simp [results, Tryz.results95, go_sem, hc, hz]) rfl ⟨rfl, ?_⟩
  refine Below.alloc ?_ (by simp; omega) _
  iterate 7 (refine Below.setCell ?_ (by simp) _)
  exact ((Below.refl _ _).alloc (Nat.le_refl _) _).trans (hb1.mono (by simp))

/-- The statements' example: the moment 951782400 is February 29, 2000, a Tuesday. -/
theorem feb_date : Cal.cy 11016 = 2000 ∧ Cal.cm 11016 = 2 ∧ Cal.cd 11016 = 29 := by decide

end Go.Proofs.YtcmhaihoeecjoaaGreatDoor.Da
