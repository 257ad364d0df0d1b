/- A disk: the draws of a crash; one file sorted; the names as they were sure. -/
import Derived.Test.YtpghfaplgkjdkaaDoorD14
namespace Go.Proofs.YtpghfaplgkjdkaaDoor
open Go.RowKit Go.Maps
def drawV (ck : Nat) : Value := .func (.func 45) #[] #[pv ck]
set_option maxRecDepth 20000 in
set_option maxHeartbeats 2000000 in
/-- A number is drawn. -/
theorem draw_head (w : World) (ck g o n c k most : Nat) (hk : Blk w ck #[.slice (some ⟨g, o, none⟩) (n + 1) c] 22) (h0 : w.cell? ⟨g, o, none⟩ = some (.int .i64 k)) (hk1 : k ≤ 1000000) (hm : most ≤ 1000000) :
    Calls Tryd.prog 45 #[.int .i64 most, pv ck] w fun e w' => e = .returned (.int .i64 ((k % (most + 1) : Nat))) ∧ w' = w.setCell ⟨ck, 0, none⟩ (if c = 1 then .slice (some ⟨g, o, none⟩) n 0 else .slice (some ⟨g, o + 1, none⟩) n (c - 1)) := by
  have hcl := hk.cell
  have hfz := hk.frozen
  have hx : max (0 : Int) k = k := by omega
  have hy : ((n : Int) + 1 == 0) = false := by simp; omega
  have hz : ¬ (n : Int) + 1 = 0 := by omega
  clear hk
  unfold pv
  go_enter Tryd.func45, Tryd.ntmps45
  go_wp2
  all_goals (
    go_ret
    exact ⟨rfl, rfl⟩)
set_option maxRecDepth 20000 in
set_option maxHeartbeats 2000000 in
theorem len1 (w : World) : Calls Tryd.prog 53 #[.int .u64 1] w fun e w' => ∃ l : Int, e = .returned (.int .i64 l) ∧ w' = w := by
  have h64 : Calls Tryd.prog 64 #[.int .u64 1] w fun e w' => ∃ l : Int, e = .returned (.int .i64 l) ∧ w' = w := by
    go_enter Tryd.func64, Tryd.ntmps64
    go_wp2
    go_ret
    exact ⟨_, rfl, rfl⟩
  go_enter Tryd.func53, Tryd.ntmps53
  go_wp2_with (go_at_call 64; refine h64.mono ?_; rintro e w' ⟨l, rfl, rfl⟩)
  go_ret
  exact ⟨_, rfl, rfl⟩
theorem insertion1 (w : World) (v f : Value) : Calls Tryd.prog 55 #[v, .int .i64 0, .int .i64 1, f] w fun e w' => e = .returned (.tuple #[]) ∧ w' = w := by
  go_enter Tryd.func55, Tryd.ntmps55
  go_wp2
  refine wp_loop_rounds 1 ?_
  rw [rounds_succ]
  go_wp2
  go_end0
  exact ⟨rfl, rfl⟩
set_option maxRecDepth 20000 in
set_option maxHeartbeats 2000000 in
theorem pdq1 (w : World) (v lim f : Value) : Calls Tryd.prog 52 #[v, .int .i64 0, .int .i64 1, lim, f] w fun e w' => e = .returned (.tuple #[]) ∧ w' = w := by
  go_enter Tryd.func52, Tryd.ntmps52
  go_wp2
  refine wp_loop_rounds 1 ?_
  rw [rounds_succ]
  go_wp2_with (go_at_call 55; refine (insertion1 _ _ _).mono ?_; rintro e w' ⟨rfl, rfl⟩)
  refine bodyPost_ret (results_none rfl _ _ _) rfl ?_
  exact ⟨rfl, rfl⟩
theorem sort1 (w : World) (A : Option Addr) (c : Nat) (f : Value) : Calls Tryd.prog 47 #[.slice A 1 c, f] w fun e w' => e = .returned (.tuple #[]) ∧ w' = w := by
  go_enter Tryd.func47, Tryd.ntmps47
  go_wp2_with (first | (go_at_call 53; refine (len1 _).mono ?_; rintro e w' ⟨l, rfl, rfl⟩) | (go_at_call 52; refine (pdq1 _ _ _ _).mono ?_; rintro e w' ⟨rfl, rfl⟩))
  go_end0
  exact ⟨rfl, rfl⟩
theorem clone0 (w : World) : Calls Tryd.prog 46 #[.slice none 0 0] w fun e w' => e = .returned (.slice none 0 0) ∧ w' = w := by
  have hq : ∀ (w0 : World), (binOp .eql 47 (.slice none 0 0) (.slice none 0 0)).run Tryd.prog w0 = .ok (.bool true) w0 := fun w0 => Lib.run_eql_slice_nil (P := Tryd.prog) w0 47 51 none 0 0 0 0 Tryd.underlying47
  go_enter Tryd.func46, Tryd.ntmps46
  go_wp2
  go_ret
  exact ⟨rfl, rfl⟩
end Go.Proofs.YtpghfaplgkjdkaaDoor
