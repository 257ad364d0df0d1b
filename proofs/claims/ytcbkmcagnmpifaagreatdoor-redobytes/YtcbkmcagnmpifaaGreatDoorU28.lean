/- A log in memory; its small steps, each by that of the disk. -/
import Derived.Test.YtcbkmcagnmpifaaGreatDoorU18
import Derived.Test.YtcbkmcagnmpifaaGreatDoorU27
import Derived.Deep.RegionWith
namespace Go.Proofs.YtcbkmcagnmpifaaGreatDoor
open Go.RowKit Go.Maps
/-- What a call that answers an error leaves. -/
def Ans (Q : Value → World → Prop) (e : Ending) (w' : World) : Prop := ∃ v, e = .returned v ∧ Q v w'
/-- The log l of the disk d. -/
structure LG (w0 w : World) (l d : Nat) (dead : Bool) (ρ : Nat → Option Role) (s : St) : Prop where
  dk : DK w0 w d ρ s
  lb : Blk w l #[pv d, .bool dead] 80
  rl : ρ l = none
  low : w0.heap.size ≤ l
section
variable {w0 w w' : World} {l d : Nat} {dead : Bool} {ρ ρ' : Nat → Option Role} {s s' : St}
theorem Turn.blk (h : Turn w w' ρ ρ') {b : Nat} {cs : Array Value} {t : TypeId} (hk : Blk w b cs t) (hr : ρ b = none) : Blk w' b cs t := h.1.blk hk (fun ⟨r, e⟩ => by rw [hr] at e; cases e)
theorem LG.turn (h : LG w0 w l d dead ρ s) (hd : DK w0 w' d ρ' s') (ht : Turn w w' ρ ρ') : LG w0 w' l d dead ρ' s' := ⟨hd, ht.blk h.lb h.rl, ht.off h.lb.lt h.rl, h.low⟩
theorem LG.then (h : LG w0 w l d dead ρ s) (hb : Below w.heap.size w w') : LG w0 w' l d dead ρ s := ⟨h.dk.then hb, h.lb.below hb h.lb.lt, h.rl, h.low⟩
end
set_option maxRecDepth 10000 in
set_option maxHeartbeats 1000000 in
theorem is_nil (a : Addr) (w : World) : Calls Tryz.prog 32 #[.nilIface, .iface 194 (.pointer (some a))] w fun e w' => e = .returned (.bool false) ∧ w' = w := by
  have heq : (binOp .eql 27 .nilIface (.iface 194 (.pointer (some a)))).run Tryz.prog w = .ok (.bool false) w := by kernel_rfl
  go_enter Tryz.func32, Tryz.ntmps32
  go_wp2
  go_ret
  exact ⟨rfl, rfl⟩
section
variable (w : World) (l d : Nat) (dead : Bool) (Q : Value → World → Prop)
set_option maxHeartbeats 1000000 in
theorem makeLog_via (hl : Blk w l #[pv d, .bool dead] 80) (hc : Calls Tryz.prog 59 #[pv d, .string ⟨redoN.toArray⟩] w (Ans Q)) : Calls Tryz.prog 38 #[pv l] w (Ans Q) := by
  have hcl := hl.cell
  replace hc := hide hc
  clear hl
  unfold pv redoN at *
  go_enter Tryz.func38, Tryz.ntmps38
  go_wp2_with (go_at_call 59; refine hc.out.mono ?_; rintro e w' ⟨v, rfl, hq⟩; replace hq := hide hq)
  go_ret
  exact ⟨_, rfl, hq.out⟩
set_option maxHeartbeats 1000000 in
theorem syncLog_via (hl : Blk w l #[pv d, .bool dead] 80) (hc : Calls Tryz.prog 72 #[pv d, .string ⟨redoN.toArray⟩] w (Ans Q)) : Calls Tryz.prog 43 #[pv l] w (Ans Q) := by
  have hcl := hl.cell
  replace hc := hide hc
  clear hl
  unfold pv redoN at *
  go_enter Tryz.func43, Tryz.ntmps43
  go_wp2_with (go_at_call 72; refine hc.out.mono ?_; rintro e w' ⟨v, rfl, hq⟩; replace hq := hide hq)
  go_ret
  exact ⟨_, rfl, hq.out⟩
set_option maxHeartbeats 1000000 in
theorem emptyLog_via (hl : Blk w l #[pv d, .bool dead] 80) (hc : Calls Tryz.prog 74 #[pv d, .string ⟨redoN.toArray⟩, .int .i64 0] w (Ans Q)) : Calls Tryz.prog 45 #[pv l] w (Ans Q) := by
  have hcl := hl.cell
  replace hc := hide hc
  clear hl
  unfold pv redoN at *
  go_enter Tryz.func45, Tryz.ntmps45
  go_wp2_with (go_at_call 74; refine hc.out.mono ?_; rintro e w' ⟨v, rfl, hq⟩; replace hq := hide hq)
  go_ret
  exact ⟨_, rfl, hq.out⟩
set_option maxHeartbeats 1000000 in
theorem dead_any (hl : Blk w l #[pv d, .bool dead] 80) : Calls Tryz.prog 26 #[pv l] w fun e w' => e = .returned (.bool dead) ∧ w' = w := by
  have hcl := hl.cell
  clear hl
  unfold pv at *
  go_enter Tryz.func26, Tryz.ntmps26
  go_wp2
  go_ret
  exact ⟨rfl, rfl⟩
/-- The record is appended to the log. -/
theorem write_via (hl : Blk w l #[pv d, .bool dead] 80) (vo vr : Value) (hc : ∀ w1, Below w.heap.size w w1 → Calls Tryz.prog 71 #[pv d, .string ⟨redoN.toArray⟩, vr] w1 (Ans Q)) : Calls Tryz.prog 42 #[.agg #[pv l, vo, vr]] w (Ans Q) := by
  have hb : Below w.heap.size w (w.alloc (.cells #[pv l, vo, vr] 84)) := (Below.refl _ _).alloc (Nat.le_refl _) _
  have hcl := hl.cell
  have hlt := hl.lt
  have HB := hide hb
  replace hc := hide hc
  clear hl hb
  unfold pv redoN at *
  go_enter Tryz.func42, Tryz.ntmps42
  go_wp2_with fail
  go_region_with (go_at_call 71; refine (hc.out _ HB.out.drew).mono ?_; rintro e w' ⟨v, rfl, hq⟩; replace hq := hide hq)
  all_goals go_wp2
  all_goals go_ret
  all_goals exact ⟨_, rfl, hq.out⟩
end
end Go.Proofs.YtcbkmcagnmpifaaGreatDoor
