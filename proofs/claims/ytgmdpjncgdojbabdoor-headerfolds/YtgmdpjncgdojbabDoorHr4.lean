/- The document's Same of layer 9, of two rows that hold the same fields. -/
import Derived.Test.YtgmdpjncgdojbabDoorHd5
import Derived.BigQuiet
import Derived.Deep.QuietTactic
namespace Go.Proofs.YtgmdpjncgdojbabDoor
open Go.RowKit Go.Shelf
/-- A slice that reads as these fields, whoever's it is. -/
def FR (w : World) (v : Value) (xs : List Fd) : Prop := ∃ A cap, v = .slice A xs.length cap ∧ ∀ i (hi : i < xs.length), ∃ g o, A = some ⟨g, o, none⟩ ∧
  w.cell? ⟨g, o + i * 4, none⟩ = some (.string ⟨xs[i].name.toArray⟩) ∧ w.cell? ⟨g, o + i * 4 + 1, none⟩ = some (.string ⟨xs[i].value.toArray⟩) ∧ w.cell? ⟨g, o + i * 4 + 2, none⟩ = some (.int .i64 (xs[i].from' : Nat)) ∧ w.cell? ⟨g, o + i * 4 + 3, none⟩ = some (.int .i64 (xs[i].to : Nat))
theorem Fds.fr {B : Nat} {w : World} {v : Value} {xs : List Fd} (h : Fds B w v xs) : FR w v xs := by
  obtain ⟨A, c, rfl⟩ := h.form
  refine ⟨A, c, rfl, fun i hi => ?_⟩
  obtain ⟨g, o, cap, e, _, _, _, _, q1, q2, q3, q4⟩ := h.read i hi
  exact ⟨g, o, by cases e; rfl, q1, q2, q3, q4⟩
set_option maxHeartbeats 1000000 in
theorem rsame_yes {v1 v2 : Value} {xs : List Fd} (w : World) (h1 : FR w v1 xs) (h2 : FR w v2 xs) (hl : xs.length ≤ 1000000) :
    Calls Tryd.prog 6 #[v1, v2] w fun e w' => e = .returned (.bool true) ∧ ∃ n, w' = w.drewN n := by
  obtain ⟨A1, c1, rfl, k1⟩ := h1
  obtain ⟨A2, c2, rfl, k2⟩ := h2
  have H1 := hide k1
  have H2 := hide k2
  clear k1 k2
  go_enter Tryd.func6, Tryd.ntmps6
  go_wp2
  go_loopw [13] (fun i wr => ∃ k : Nat, k ≤ xs.length ∧ i = .int .i64 k ∧ ∃ n, wr = w.drewN n) (fun i _ => xs.length - (intOf i).toNat)
  case atStart => exact ⟨0, Nat.zero_le _, rfl, 0, rfl⟩
  case round =>
    obtain ⟨k, hk, rfl, n, rfl⟩ := hrel
    by_cases hlt : k < xs.length
    · obtain ⟨g, o, rfl, q1, q2, q3, q4⟩ := H1.out k hlt
      obtain ⟨g2, o2, rfl, r1, r2, r3, r4⟩ := H2.out k hlt
      have hlt' : (k : Int) < xs.length := by omega
      generalize xs[k] = p at *
      go_wp2
      go_quiet (fail)
      go_wp2
      go_roundw
      case rel => exact ⟨k + 1, by omega, by go_num, n + nq, by simp⟩
      case measure => simp [intOf]; omega
    · obtain rfl : k = xs.length := by omega
      go_wp2
      go_ret
      exact ⟨rfl, n, rfl⟩
end Go.Proofs.YtgmdpjncgdojbabDoor
