/- One operation's steps, each by that of the disk. -/
import Derived.Test.YthhnlkbjpahjeaaGreatDoorU27
namespace Go.Proofs.YthhnlkbjpahjeaaGreatDoor
open Go.RowKit Go.Maps Go.Sort
/-- An operation of the log l. -/
def opAgg (l : Nat) (x : OpA) : Value := .agg #[pv l, .int .i64 x.kind, .string ⟨x.name.toArray⟩, .int .i64 x.at_, x.val]
section
variable (w : World) (l d : Nat) (dead : Bool) (Q : Value → World → Prop) (x : OpA)
set_option maxRecDepth 8000 in
set_option maxHeartbeats 2000000 in
theorem osync_via (hl : Blk w l #[pv d, .bool dead] 59) (hc : ∀ w1, Below w.heap.size w w1 → Calls Tryz.prog 50 #[pv d, .string ⟨x.name.toArray⟩] w1 (Ans Q)) : Calls Tryz.prog 87 #[opAgg l x] w (Ans Q) := by
  have hb : Below w.heap.size w (w.alloc (.cells #[pv l, .int .i64 x.kind, .string ⟨x.name.toArray⟩, .int .i64 x.at_, x.val] 84)) := (Below.refl _ _).alloc (Nat.le_refl _) _
  have hcl := hl.cell
  have hlt := hl.lt
  have HB := hide hb
  replace hc := hide hc
  obtain ⟨kd, nm, att, vl, bs⟩ := x
  simp only at HB hc
  clear hl hb
  unfold opAgg pv at *
  simp only
  go_enter Tryz.func87, Tryz.ntmps87
  go_wp2_with fail
  go_region_with (go_at_call 50; refine (hc.out _ HB.out.drew).mono ?_; rintro e w' ⟨v, rfl, hq⟩; replace hq := hide hq)
  all_goals go_wp2
  all_goals go_ret
  all_goals exact ⟨_, rfl, hq.out⟩
set_option maxRecDepth 8000 in
set_option maxHeartbeats 2000000 in
theorem ofill_none (A : Option Addr) (c : Nat) (hv : x.val = .slice A 0 c) (hc : ∀ w1, Below w.heap.size w w1 → Q .nilIface w1) : Calls Tryz.prog 86 #[opAgg l x] w (Ans Q) := by
  have hb : Below w.heap.size w (w.alloc (.cells #[pv l, .int .i64 x.kind, .string ⟨x.name.toArray⟩, .int .i64 x.at_, x.val] 84)) := (Below.refl _ _).alloc (Nat.le_refl _) _
  have HB := hide hb
  replace hc := hide hc
  obtain ⟨kd, nm, att, vl, bs⟩ := x
  simp only at HB hc hv
  subst hv
  clear hb
  unfold opAgg pv at *
  simp only
  go_enter Tryz.func86, Tryz.ntmps86
  go_wp2
  go_ret
  exact ⟨_, rfl, hc.out _ HB.out⟩
set_option maxRecDepth 8000 in
set_option maxHeartbeats 4000000 in
theorem ofill_via (hl : Blk w l #[pv d, .bool dead] 59) (A : Option Addr) (n c : Nat) (hn : 0 < n) (hn1 : n ≤ 1000000) (hv : x.val = .slice A n c) (hc : ∀ w1, Below w.heap.size w w1 → Calls Tryz.prog 49 #[pv d, .string ⟨x.name.toArray⟩, x.val] w1 (Ans Q)) : Calls Tryz.prog 86 #[opAgg l x] w (Ans Q) := by
  have hb : Below w.heap.size w (w.alloc (.cells #[pv l, .int .i64 x.kind, .string ⟨x.name.toArray⟩, .int .i64 x.at_, x.val] 84)) := (Below.refl _ _).alloc (Nat.le_refl _) _
  have hcl := hl.cell
  have hlt := hl.lt
  have HB := hide hb
  replace hc := hide hc
  obtain ⟨kd, nm, att, vl, bs⟩ := x
  simp only at HB hc hv
  subst hv
  have hn0 : ((n : Int) == 0) = false := by simp; omega
  clear hl hb
  unfold opAgg pv at *
  simp only
  go_enter Tryz.func86, Tryz.ntmps86
  go_wp2_with fail
  go_region_with (go_at_call 49; refine (hc.out _ HB.out.drew).mono ?_; rintro e w' ⟨v, rfl, hq⟩; replace hq := hide hq)
  all_goals go_wp2
  all_goals go_ret
  all_goals exact ⟨_, rfl, hq.out⟩
end
section
variable (w0 w : World) (l d : Nat) (dead : Bool) (ρ : Nat → Option Role) (s : St) (a : Nat → Addr) (x : OpA)
set_option maxRecDepth 8000 in
set_option maxHeartbeats 4000000 in
theorem isThere_none (hE : Errs w0 a) (h : LG w0 w l d dead ρ s) (hoff : s.off = false) (hr : rightB x.name = true) (hf : s.D.atKey (.string x.name) .nil = .nil) :
    Calls Tryz.prog 111 #[opAgg l x] w fun e w' => e = .returned (.bool false) ∧ Below w.heap.size w w' := by
  obtain ⟨W, hW⟩ : ∃ W, Hid (W = w.alloc (.cells #[pv l, .int .i64 x.kind, .string ⟨x.name.toArray⟩, .int .i64 x.at_, x.val] 84)) := ⟨_, rfl⟩
  have hb : Below w.heap.size w W := by rw [hW.out]; exact (Below.refl _ _).alloc (Nat.le_refl _) _
  have k0 : Blk W w.heap.size #[pv l, .int .i64 x.kind, .string ⟨x.name.toArray⟩, .int .i64 x.at_, x.val] 84 := by rw [hW.out]; exact Blk.new _ _ _
  have hL := h.then hb
  have HS := hide (fun m : Nat => size_none w0 (W.drewN m) d ρ s a hE (hL.dk.drewN m) hoff x.name hr hf)
  have hcl := hL.lb.cell
  have hck := k0.cell
  have HB := hide hb
  have g4 : Hid (∀ m, (W.drewN m).cell? ⟨0, 0, none⟩ = some (errV a 4)) := fun m => (hE.below (hL.dk.drewN m).below).cell 4 (by decide)
  obtain ⟨kd, nm, att, vl, bs⟩ := x
  simp only at HB hW HS hck
  clear h hb k0 hL hE
  unfold opAgg pv errV at *
  simp only
  go_enter Tryz.func111, Tryz.ntmps111
  go_wp2_with fail
  rw [← hW.out]
  go_quiet ((go_at_call 108; exact Calls.quiet_of (HS.out _)))
  have g4' := g4.out nq
  have hb' := hide (HB.out.trans ((below_drewN W nq).mono HB.out.size))
  generalize W.drewN nq = W2 at *
  clear hcl hck HS g4
  go_wp2_with (go_at_call 28; refine (is_same _ _).mono ?_; rintro e w' ⟨rfl, rfl⟩)
  go_ret
  exact ⟨rfl, hb'.out⟩
set_option maxRecDepth 8000 in
set_option maxHeartbeats 4000000 in
theorem isThere_yes (hE : Errs w0 a) (h : LG w0 w l d dead ρ s) (hoff : s.off = false) (hr : rightB x.name = true) (b : Nat) (fa : FA) (hat : s.D.atKey (.string x.name) .nil = pd b) (hφ : s.φ b = some fa) :
    Calls Tryz.prog 111 #[opAgg l x] w fun e w' => e = .returned (.bool true) ∧ Below w.heap.size w w' := by
  obtain ⟨W, hW⟩ : ∃ W, Hid (W = w.alloc (.cells #[pv l, .int .i64 x.kind, .string ⟨x.name.toArray⟩, .int .i64 x.at_, x.val] 84)) := ⟨_, rfl⟩
  have hb : Below w.heap.size w W := by rw [hW.out]; exact (Below.refl _ _).alloc (Nat.le_refl _) _
  have k0 : Blk W w.heap.size #[pv l, .int .i64 x.kind, .string ⟨x.name.toArray⟩, .int .i64 x.at_, x.val] 84 := by rw [hW.out]; exact Blk.new _ _ _
  have hL := h.then hb
  have HS := hide (fun m : Nat => size_there w0 (W.drewN m) d ρ s (hL.dk.drewN m) hoff x.name hr b fa hat hφ)
  have hcl := hL.lb.cell
  have hck := k0.cell
  have HB := hide hb
  have g4 : Hid (∀ m, (W.drewN m).cell? ⟨0, 0, none⟩ = some (errV a 4)) := fun m => (hE.below (hL.dk.drewN m).below).cell 4 (by decide)
  obtain ⟨kd, nm, att, vl, bs⟩ := x
  simp only at HB hW HS hck
  clear h hb k0 hL hE
  unfold opAgg pv errV at *
  simp only
  go_enter Tryz.func111, Tryz.ntmps111
  go_wp2_with fail
  rw [← hW.out]
  go_quiet ((go_at_call 108; exact Calls.quiet_of_same (HS.out _)))
  have g4' := g4.out nq
  have hb' := hide (HB.out.trans ((below_drewN W nq).mono HB.out.size))
  generalize W.drewN nq = W2 at *
  clear hcl hck HS g4
  go_wp2_with (go_at_call 28; refine (is_nil _ _).mono ?_; rintro e w' ⟨rfl, rfl⟩)
  go_ret
  exact ⟨rfl, hb'.out⟩
end
section
variable (w : World) (l d : Nat) (dead : Bool) (Q : Value → World → Prop) (x : OpA)
set_option maxRecDepth 8000 in
set_option maxHeartbeats 4000000 in
theorem oclear_create (hl : Blk w l #[pv d, .bool dead] 59) (hT : ∀ w1, Below w.heap.size w w1 → Calls Tryz.prog 111 #[opAgg l x] w1 fun e w' => e = .returned (.bool false) ∧ Below w1.heap.size w1 w') (hc : ∀ w1, Below w.heap.size w w1 → Calls Tryz.prog 36 #[pv d, .string ⟨x.name.toArray⟩] w1 (Ans Q)) : Calls Tryz.prog 88 #[opAgg l x] w (Ans Q) := by
  have hb : Below w.heap.size w (w.alloc (.cells #[pv l, .int .i64 x.kind, .string ⟨x.name.toArray⟩, .int .i64 x.at_, x.val] 84)) := (Below.refl _ _).alloc (Nat.le_refl _) _
  have k0 := hide (Blk.new w #[pv l, .int .i64 x.kind, .string ⟨x.name.toArray⟩, .int .i64 x.at_, x.val] 84)
  have HT := hide (hT _ hb)
  have HL := hide hl
  have HB := hide hb
  replace hc := hide hc
  obtain ⟨kd, nm, att, vl, bs⟩ := x
  simp only at HB hc k0 HT
  clear hl hb hT
  unfold opAgg pv at *
  simp only at HT ⊢
  go_enter Tryz.func88, Tryz.ntmps88
  go_wp2_with fail
  refine HT.out.mono ?_
  rintro e w1 ⟨rfl, hb1⟩
  have hck := (k0.out.below hb1 k0.out.lt).cell
  have HB1 := hide (HB.out.trans (hb1.mono HB.out.size))
  have hcl := (HL.out.below HB1.out HL.out.lt).cell
  clear hb1 k0 HL HT
  go_wp2_with fail
  go_region_with (go_at_call 36; refine (hc.out _ HB1.out.drew).mono ?_; rintro e w' ⟨v, rfl, hq⟩; replace hq := hide hq)
  all_goals go_wp2
  all_goals go_ret
  all_goals exact ⟨_, rfl, hq.out⟩
set_option maxRecDepth 8000 in
set_option maxHeartbeats 4000000 in
theorem oclear_cut (hl : Blk w l #[pv d, .bool dead] 59) (hT : ∀ w1, Below w.heap.size w w1 → Calls Tryz.prog 111 #[opAgg l x] w1 fun e w' => e = .returned (.bool true) ∧ Below w1.heap.size w1 w') (hc : ∀ w1, Below w.heap.size w w1 → Calls Tryz.prog 52 #[pv d, .string ⟨x.name.toArray⟩, .int .i64 0] w1 (Ans Q)) : Calls Tryz.prog 88 #[opAgg l x] w (Ans Q) := by
  have hb : Below w.heap.size w (w.alloc (.cells #[pv l, .int .i64 x.kind, .string ⟨x.name.toArray⟩, .int .i64 x.at_, x.val] 84)) := (Below.refl _ _).alloc (Nat.le_refl _) _
  have k0 := hide (Blk.new w #[pv l, .int .i64 x.kind, .string ⟨x.name.toArray⟩, .int .i64 x.at_, x.val] 84)
  have HT := hide (hT _ hb)
  have HL := hide hl
  have HB := hide hb
  replace hc := hide hc
  obtain ⟨kd, nm, att, vl, bs⟩ := x
  simp only at HB hc k0 HT
  clear hl hb hT
  unfold opAgg pv at *
  simp only at HT ⊢
  go_enter Tryz.func88, Tryz.ntmps88
  go_wp2_with fail
  refine HT.out.mono ?_
  rintro e w1 ⟨rfl, hb1⟩
  have hck := (k0.out.below hb1 k0.out.lt).cell
  have HB1 := hide (HB.out.trans (hb1.mono HB.out.size))
  have hcl := (HL.out.below HB1.out HL.out.lt).cell
  clear hb1 k0 HL HT
  go_wp2_with fail
  go_region_with (go_at_call 52; refine (hc.out _ HB1.out.drew).mono ?_; rintro e w' ⟨v, rfl, hq⟩; replace hq := hide hq)
  all_goals go_wp2
  all_goals go_ret
  all_goals exact ⟨_, rfl, hq.out⟩
end
end Go.Proofs.YthhnlkbjpahjeaaGreatDoor
