/- RedoBytes: which changes are in form, what their bytes are, and that these are read back. -/
import Derived.Test.YtcbkmcagnmpifaaGreatDoorU42
import Derived.Deep.RegionHeld3
namespace Go.Proofs.YtcbkmcagnmpifaaGreatDoor
open Go.RowKit
theorem erase_at {xs ops : List OpA} (h : xs.map OpA.erase = ops.map OpA.erase) : xs.length = ops.length ∧ ∀ i (h1 : i < xs.length) (h2 : i < ops.length), xs[i].kind = ops[i].kind ∧ xs[i].name = ops[i].name ∧ xs[i].at_ = ops[i].at_ ∧ xs[i].bytes = ops[i].bytes := by
  have hl := congrArg List.length h
  rw [List.length_map, List.length_map] at hl
  refine ⟨hl, fun i h1 h2 => ?_⟩
  have := congrArg (·[i]?) h
  simp only [List.getElem?_map, List.getElem?_eq_getElem h1, List.getElem?_eq_getElem h2, Option.map_some, Option.some.injEq] at this
  unfold OpA.erase at this
  simp only [OpA.mk.injEq, true_and] at this
  exact this
set_option maxRecDepth 20000 in
set_option maxHeartbeats 8000000 in
theorem redoBytes_walk (ops : List OpA) (v : Value) (w : World) (a : Nat → Addr) (hE : Errs w a) (h : OPs w v ops) (hr : Reach ops) :
    Calls Tryz.prog 3 #[v] w fun e w' => e = .returned (.bool true) ∧ Below w.heap.size w w' := by
  have HAl := hide (alive_yes w a hE)
  have HO := hide (fun w' (hb : Below w.heap.size w w') => h.below hb)
  have HE := hide (fun w' (hb : Below w.heap.size w w') => hE.below hb)
  have HLo := hide (fun w' (hb : Below w.heap.size w w') => long_any ops v w' (h.below hb) hr)
  obtain ⟨A, c, rfl, hl, hm⟩ := h.form
  have hmx : c ≤ 9223372036854775807 := by simp only [maxLen] at hm; omega
  have hnb := size_NB ops
  clear h hE hm hr
  go_enter Tryz.func3, Tryz.ntmps3
  go_wp2_with fail
  refine HAl.out.mono ?_
  rintro e w1 ⟨rfl, hb1⟩
  have HB1 := hide hb1
  clear hb1 HAl
  go_wp2_with fail
  refine (HLo.out w1 HB1.out).mono ?_
  rintro e w2 ⟨rfl, hb2⟩
  have HB2 := hide (HB1.out.trans (hb2.mono HB1.out.size))
  clear hb2 HB1 HLo
  cases hlong : longB ops with
  | true =>
    go_wp2
    go_ret
    exact ⟨rfl, HB2.out⟩
  | false =>
    have hsz : sizeOps ops ≤ 300000 := by
      unfold longB at hlong
      have := of_decide_eq_false hlong
      omega
    replace hnb := hide hnb
    clear hlong
    cases hf : formB ops with
    | false =>
      go_wp2_with fail
      refine (obytes_no ops _ w2 (HO.out w2 HB2.out) (by omega) a (HE.out w2 HB2.out) hf).mono ?_
      rintro e w3 ⟨rfl, hb3⟩
      have HB3 := hide (HB2.out.trans (hb3.mono HB2.out.size))
      clear hb3 HB2
      unfold errV
      go_wp2_with fail
      refine (rform_any ops _ w3 (HO.out w3 HB3.out) (by omega)).mono ?_
      rintro e w4 ⟨rfl, hb4⟩
      rw [hf]
      have HB4 := hide (HB3.out.trans (hb4.mono HB3.out.size))
      have HN := hide (num_err 1 (by decide) w4 a (HE.out w4 HB4.out))
      clear hb4 HB3
      go_wp2_with (go_at_call 10; refine HN.out.mono ?_; rintro e w5 ⟨rfl, hb5⟩; replace hb5 := hide hb5)
      go_ret
      exact ⟨rfl, HB4.out.trans (hb5.out.mono HB4.out.size)⟩
    | true =>
      have hbl := opsB_length ops
      have hpos := sizeOps_pos ops
      have hbne : opsB ops ≠ [] := fun e => by rw [e] at hbl; simp at hbl; omega
      have hoo := opsOf_opsB ops hf
      have hb4l : Hid ((opsB ops).length ≤ 400000) := by show _ ≤ _; omega
      obtain ⟨Bs, hBs⟩ : ∃ B, Hid (B = opsB ops) := ⟨_, rfl⟩
      have hob := obytes_yes ops
      have hrb := rbytes_any ops
      rw [← hBs.out] at hbne hoo hb4l hob hrb
      replace hbne := hide hbne
      replace hoo := hide hoo
      replace hob := hide hob
      replace hrb := hide hrb
      clear hbl hpos
      go_wp2_with fail
      refine (hob.out _ w2 (HO.out w2 HB2.out) hf).mono ?_
      rintro e w3 ⟨v3, rfl, T3⟩
      have HB3 := hide (HB2.out.trans (T3.1.mono HB2.out.size))
      have V3 := hide T3.br
      clear T3 HB2
      go_wp2_with fail
      refine (rform_any ops _ w3 (HO.out w3 HB3.out) (by omega)).mono ?_
      rintro e w4 ⟨rfl, hb4⟩
      rw [hf]
      have HB4 := hide (HB3.out.trans (hb4.mono HB3.out.size))
      have V4 := hide (V3.out.below hb4)
      clear hb4 HB3 V3
      have HOp := oops_any Bs v3 w4 (RB.of_br V4.out hbne.out) hb4l.out a (HE.out w4 HB4.out)
      rw [hoo.out] at HOp
      replace HOp := hide HOp
      go_wp2_with fail
      refine HOp.out.mono ?_
      rintro e w5 ⟨hb5, v5, xs, rfl, hP, hx⟩
      have HB5 := hide (HB4.out.trans (hb5.mono HB4.out.size))
      have V5 := hide (V4.out.below hb5)
      have X5 := hide hP.1
      obtain ⟨hxl, hxe⟩ := erase_at hx
      obtain ⟨A5, c5, rfl, hl5, hm5⟩ := hP.1.form
      have hmx5 : c5 ≤ 9223372036854775807 := by simp only [maxLen] at hm5; omega
      obtain ⟨A3, c3, rfl, _⟩ := BR.form V5.out
      have hcA0 : (convert 25 9 (.slice A3 Bs.length c3)).run Tryz.prog w5.drew = .ok (.string ⟨Bs.toArray⟩) w5.drew := (V5.out.below (Below.refl _ _).drew).convert
      have HRb := hide (hrb.out _ w5.drew (HO.out w5.drew HB5.out.drew) hf)
      replace hxe := hide hxe
      rw [hxl] at hl5 ⊢
      clear hb5 hP HOp HB4 V4 hm5
      go_wp2_with fail
      refine wp_region_held_drew (S := fun w' => (convert 25 9 (.slice A3 Bs.length c3)).run Tryz.prog w' = .ok (.string ⟨Bs.toArray⟩) w') (by kernel_rfl) hcA0 (fun hHeld => ?_)
      refine wpAnyH_take (i := 0) (oi := { dst := some 34, op := Op.move (Operand.tmp 4), type := _, pos := _, after := _, guard := _ }) (v := ?_) rfl (by kernel_rfl) (by kernel_rfl) (by kernel_rfl) (fun _ _ _ h => h) (Or.inl ⟨by rfl, ?_⟩) (by assumption) ?_
      rotate_left 1
      · (intro w hSw; (try dsimp only at hSw); go_simp; (try with_reducible rfl))
      (try simp only [Act.put, List.setIfInBounds_toArray, List.set_cons_zero, List.set_cons_succ])
      refine wpAnyH_take (i := 1) (oi := { dst := some 35, op := Op.binOp BinOp.neq 27 (Operand.tmp 34) (Operand.const Value.nilIface) 27, type := _, pos := _, after := _, guard := _ }) (v := ?_) rfl (by kernel_rfl) (by kernel_rfl) (by kernel_rfl) (fun _ _ _ h => h) (Or.inl ⟨by rfl, ?_⟩) (by assumption) ?_
      rotate_left 1
      · (intro w hSw; (try dsimp only at hSw); go_simp; (try with_reducible rfl))
      (try simp only [Act.put, List.setIfInBounds_toArray, List.set_cons_zero, List.set_cons_succ])
      refine wpAnyH_take (i := 2) (oi := { dst := some 36, op := Op.move (Operand.tmp 35), type := _, pos := _, after := _, guard := _ }) (v := ?_) rfl (by kernel_rfl) (by kernel_rfl) (by kernel_rfl) (fun _ _ _ h => h) (Or.inl ⟨by rfl, ?_⟩) (by assumption) ?_
      rotate_left 1
      · (intro w hSw; (try dsimp only at hSw); go_simp; (try with_reducible rfl))
      (try simp only [Act.put, List.setIfInBounds_toArray, List.set_cons_zero, List.set_cons_succ])
      refine wpAnyH_take (i := 3) (oi := { dst := some 37, op := Op.move (Operand.tmp 6), type := _, pos := _, after := _, guard := _ }) (v := ?_) rfl (by kernel_rfl) (by kernel_rfl) (by kernel_rfl) (fun _ _ _ h => h) (Or.inl ⟨by rfl, ?_⟩) (by assumption) ?_
      rotate_left 1
      · (intro w hSw; (try dsimp only at hSw); go_simp; (try with_reducible rfl))
      (try simp only [Act.put, List.setIfInBounds_toArray, List.set_cons_zero, List.set_cons_succ])
      refine wpAnyH_take (i := 4) (oi := { dst := some 38, op := Op.binOp BinOp.neq 27 (Operand.tmp 37) (Operand.const Value.nilIface) 27, type := _, pos := _, after := _, guard := _ }) (v := ?_) rfl (by kernel_rfl) (by kernel_rfl) (by kernel_rfl) (fun _ _ _ h => h) (Or.inl ⟨by rfl, ?_⟩) (by assumption) ?_
      rotate_left 1
      · (intro w hSw; (try dsimp only at hSw); go_simp; (try with_reducible rfl))
      (try simp only [Act.put, List.setIfInBounds_toArray, List.set_cons_zero, List.set_cons_succ])
      refine wpAnyH_take (i := 5) (oi := { dst := some 39, op := Op.pick (Operand.tmp 36) (Operand.const (Value.bool true)) (Operand.tmp 38), type := _, pos := _, after := _, guard := _ }) (v := ?_) rfl (by kernel_rfl) (by kernel_rfl) (by kernel_rfl) (fun _ _ _ h => h) (Or.inl ⟨by rfl, ?_⟩) (by assumption) ?_
      rotate_left 1
      · (intro w hSw; (try dsimp only at hSw); go_simp; (try with_reducible rfl))
      (try simp only [Act.put, List.setIfInBounds_toArray, List.set_cons_zero, List.set_cons_succ])
      refine wpAnyH_take (i := 6) (oi := { dst := some 40, op := Op.move (Operand.tmp 39), type := _, pos := _, after := _, guard := _ }) (v := ?_) rfl (by kernel_rfl) (by kernel_rfl) (by kernel_rfl) (fun _ _ _ h => h) (Or.inl ⟨by rfl, ?_⟩) (by assumption) ?_
      rotate_left 1
      · (intro w hSw; (try dsimp only at hSw); go_simp; (try with_reducible rfl))
      (try simp only [Act.put, List.setIfInBounds_toArray, List.set_cons_zero, List.set_cons_succ])
      refine wpAnyH_take (i := 7) (oi := { dst := some 41, op := Op.move (Operand.tmp 3), type := _, pos := _, after := _, guard := _ }) (v := ?_) rfl (by kernel_rfl) (by kernel_rfl) (by kernel_rfl) (fun _ _ _ h => h) (Or.inl ⟨by rfl, ?_⟩) (by assumption) ?_
      rotate_left 1
      · (intro w hSw; (try dsimp only at hSw); go_simp; (try with_reducible rfl))
      (try simp only [Act.put, List.setIfInBounds_toArray, List.set_cons_zero, List.set_cons_succ])
      refine wpAnyH_take (i := 8) (oi := { dst := some 42, op := Op.convert 25 9 (Operand.tmp 41), type := _, pos := _, after := _, guard := _ }) (v := ?_) rfl (by kernel_rfl) (by kernel_rfl) (by kernel_rfl) (fun _ _ _ h => h) (Or.inl ⟨by rfl, ?_⟩) (by assumption) ?_
      rotate_left 1
      · (intro w hSw; (try dsimp only at hSw); go_simp; (try with_reducible rfl))
      (try simp only [Act.put, List.setIfInBounds_toArray, List.set_cons_zero, List.set_cons_succ])
      refine wpAnyH_take (i := 9) (oi := { dst := some 43, op := Op.move (Operand.tmp 0), type := _, pos := _, after := _, guard := _ }) (v := ?_) rfl (by kernel_rfl) (by kernel_rfl) (by kernel_rfl) (fun _ _ _ h => h) (Or.inl ⟨by rfl, ?_⟩) (by assumption) ?_
      rotate_left 1
      · (intro w hSw; (try dsimp only at hSw); go_simp; (try with_reducible rfl))
      (try simp only [Act.put, List.setIfInBounds_toArray, List.set_cons_zero, List.set_cons_succ])
      refine wpAnyH_ready (rs := [10]) (by kernel_rfl) (by simp) ?_
      refine AllReadyH.cons (o := { dst := some 44, op := Op.call { callee := Callee.value (Operand.func 12), args := #[Operand.tmp 43], argTypes := #[22] }, type := _, pos := _, after := _, guard := _ }) rfl (fun K hK => ?_) AllReadyH.nil
      go_simp
      refine HRb.out.mono ?_
      rintro e w6 ⟨v6, rfl, T6⟩
      obtain ⟨A6, c6, rfl, _⟩ := BR.form T6.br
      have hcA := (V5.out.below ((Below.refl _ _).drew.trans (T6.1.mono (Nat.le_refl _)))).convert
      have hcB := T6.br.convert
      replace T6 := hide T6.1
      refine hK.out _ _ (hcA) (fun hHeld => ?_)
      clear hK K
      (try simp only [Act.put, List.setIfInBounds_toArray, List.set_cons_zero, List.set_cons_succ])
      refine wpAnyH_ready (rs := [11]) (by kernel_rfl) (by simp) ?_
      refine AllReadyH.cons (o := { dst := some 45, op := Op.convert 25 9 (Operand.tmp 44), type := _, pos := _, after := _, guard := _ }) rfl (fun K hK => ?_) AllReadyH.nil
      go_simp
      refine hK.out _ _ (hcA) (fun hHeld => ?_)
      clear hK K
      (try simp only [Act.put, List.setIfInBounds_toArray, List.set_cons_zero, List.set_cons_succ])
      refine wpAnyH_take (i := 12) (oi := { dst := some 46, op := Op.binOp BinOp.neq 9 (Operand.tmp 42) (Operand.tmp 45) 9, type := _, pos := _, after := _, guard := _ }) (v := ?_) rfl (by kernel_rfl) (by kernel_rfl) (by kernel_rfl) (fun _ _ _ h => h) (Or.inl ⟨by rfl, ?_⟩) (by assumption) ?_
      rotate_left 1
      · (intro w hSw; (try dsimp only at hSw); go_simp; (try with_reducible rfl))
      (try simp only [Act.put, List.setIfInBounds_toArray, List.set_cons_zero, List.set_cons_succ])
      refine wpAnyH_take (i := 13) (oi := { dst := some 47, op := Op.pick (Operand.tmp 40) (Operand.const (Value.bool true)) (Operand.tmp 46), type := _, pos := _, after := _, guard := _ }) (v := ?_) rfl (by kernel_rfl) (by kernel_rfl) (by kernel_rfl) (fun _ _ _ h => h) (Or.inl ⟨by rfl, ?_⟩) (by assumption) ?_
      rotate_left 1
      · (intro w hSw; (try dsimp only at hSw); go_simp; (try with_reducible rfl))
      (try simp only [Act.put, List.setIfInBounds_toArray, List.set_cons_zero, List.set_cons_succ])
      refine wpAnyH_take (i := 14) (oi := { dst := some 48, op := Op.move (Operand.tmp 47), type := _, pos := _, after := _, guard := _ }) (v := ?_) rfl (by kernel_rfl) (by kernel_rfl) (by kernel_rfl) (fun _ _ _ h => h) (Or.inl ⟨by rfl, ?_⟩) (by assumption) ?_
      rotate_left 1
      · (intro w hSw; (try dsimp only at hSw); go_simp; (try with_reducible rfl))
      (try simp only [Act.put, List.setIfInBounds_toArray, List.set_cons_zero, List.set_cons_succ])
      refine wpAnyH_take (i := 15) (oi := { dst := some 49, op := Op.move (Operand.tmp 5), type := _, pos := _, after := _, guard := _ }) (v := ?_) rfl (by kernel_rfl) (by kernel_rfl) (by kernel_rfl) (fun _ _ _ h => h) (Or.inl ⟨by rfl, ?_⟩) (by assumption) ?_
      rotate_left 1
      · (intro w hSw; (try dsimp only at hSw); go_simp; (try with_reducible rfl))
      (try simp only [Act.put, List.setIfInBounds_toArray, List.set_cons_zero, List.set_cons_succ])
      refine wpAnyH_take (i := 16) (oi := { dst := some 50, op := Op.call { callee := Callee.builtin Builtin.len, args := #[Operand.tmp 49], argTypes := #[22] }, type := _, pos := _, after := _, guard := _ }) (v := ?_) rfl (by kernel_rfl) (by kernel_rfl) (by kernel_rfl) (fun _ _ _ h => h) (Or.inl ⟨by rfl, ?_⟩) (by assumption) ?_
      rotate_left 1
      · (intro w hSw; (try dsimp only at hSw); go_simp; (try with_reducible rfl))
      (try simp only [Act.put, List.setIfInBounds_toArray, List.set_cons_zero, List.set_cons_succ])
      refine wpAnyH_take (i := 17) (oi := { dst := some 51, op := Op.move (Operand.tmp 0), type := _, pos := _, after := _, guard := _ }) (v := ?_) rfl (by kernel_rfl) (by kernel_rfl) (by kernel_rfl) (fun _ _ _ h => h) (Or.inl ⟨by rfl, ?_⟩) (by assumption) ?_
      rotate_left 1
      · (intro w hSw; (try dsimp only at hSw); go_simp; (try with_reducible rfl))
      (try simp only [Act.put, List.setIfInBounds_toArray, List.set_cons_zero, List.set_cons_succ])
      refine wpAnyH_take (i := 18) (oi := { dst := some 52, op := Op.call { callee := Callee.builtin Builtin.len, args := #[Operand.tmp 51], argTypes := #[22] }, type := _, pos := _, after := _, guard := _ }) (v := ?_) rfl (by kernel_rfl) (by kernel_rfl) (by kernel_rfl) (fun _ _ _ h => h) (Or.inl ⟨by rfl, ?_⟩) (by assumption) ?_
      rotate_left 1
      · (intro w hSw; (try dsimp only at hSw); go_simp; (try with_reducible rfl))
      (try simp only [Act.put, List.setIfInBounds_toArray, List.set_cons_zero, List.set_cons_succ])
      refine wpAnyH_take (i := 19) (oi := { dst := some 53, op := Op.binOp BinOp.neq 3 (Operand.tmp 50) (Operand.tmp 52) 3, type := _, pos := _, after := _, guard := _ }) (v := ?_) rfl (by kernel_rfl) (by kernel_rfl) (by kernel_rfl) (fun _ _ _ h => h) (Or.inl ⟨by rfl, ?_⟩) (by assumption) ?_
      rotate_left 1
      · (intro w hSw; (try dsimp only at hSw); go_simp; (try with_reducible rfl))
      (try simp only [Act.put, List.setIfInBounds_toArray, List.set_cons_zero, List.set_cons_succ])
      refine wpAnyH_take (i := 20) (oi := { dst := some 54, op := Op.pick (Operand.tmp 48) (Operand.const (Value.bool true)) (Operand.tmp 53), type := _, pos := _, after := _, guard := _ }) (v := ?_) rfl (by kernel_rfl) (by kernel_rfl) (by kernel_rfl) (fun _ _ _ h => h) (Or.inl ⟨by rfl, ?_⟩) (by assumption) ?_
      rotate_left 1
      · (intro w hSw; (try dsimp only at hSw); go_simp; (try with_reducible rfl))
      (try simp only [Act.put, List.setIfInBounds_toArray, List.set_cons_zero, List.set_cons_succ])
      refine wpAnyH_done (by kernel_rfl) ?_ _
      have HB6 := hide (HB5.out.trans (((Below.refl _ _).drew.trans (T6.out.mono (Nat.le_refl _))).mono HB5.out.size))
      have X6 := hide (X5.out.below ((Below.refl _ _).drew.trans (T6.out.mono (Nat.le_refl _))))
      clear hcA hcB hcA0 HRb V5 hHeld
      go_wp2_with fail
      go_loopw [7, 8, 57] (fun _ _ u wr => ∃ k : Nat, k ≤ ops.length ∧ u = .int .i64 k ∧ Hid (Below w6.heap.size w6 wr)) (fun _ _ u _ => ops.length - (intOf u).toNat)
      case atStart => exact ⟨0, Nat.zero_le _, rfl, Below.refl _ _⟩
      case round =>
        obtain ⟨k, hkl, rfl, hB⟩ := hrel
        have hBA := hide (HB6.out.trans (hB.out.mono HB6.out.size))
        by_cases hlt : k < ops.length
        · have hltz : (k : Int) < (ops.length : Int) := by omega
          obtain ⟨g, o, rfl, hg, _, q0, q1, q2, q3, q4⟩ := (HO.out wr hBA.out).at hlt
          obtain ⟨Ab, cb, hvb, _⟩ := q4.form
          obtain ⟨g5, o5, rfl, hg5, _, r0, r1, r2, r3, r4⟩ := (X6.out.below hB.out).at (show k < xs.length by omega)
          obtain ⟨x0, x1, x2, x3⟩ := hxe.out k (by omega) hlt
          obtain ⟨Ax, cx, hvx, _⟩ := r4.form
          rw [x0] at r0
          rw [x1] at r1
          rw [x2] at r2
          rw [x3] at r4 hvx
          rw [hvx] at r3 r4
          rw [hvb] at q3 q4
          generalize ops[k].kind = kd at q0 r0
          generalize ops[k].name = nm at q1 r1
          generalize ops[k].at_ = att at q2 r2
          generalize hbs : ops[k].bytes = bs at q3 q4 r3 r4
          clear hvx hvb hbs x0 x1 x2 x3
          obtain ⟨W, hW⟩ : ∃ W, Hid (W = wr.alloc (.cells #[.int .i64 kd, .string ⟨nm.toArray⟩, .int .i64 att, .slice Ab bs.length cb] 35)) := ⟨_, rfl⟩
          have hbW : Below wr.heap.size wr W := by rw [hW.out]; exact (Below.refl _ _).alloc (Nat.le_refl _) _
          have kW : Blk W wr.heap.size #[.int .i64 kd, .string ⟨nm.toArray⟩, .int .i64 att, .slice Ab bs.length cb] 35 := by rw [hW.out]; exact Blk.new _ _ _
          have hcW := kW.cell
          have t0 := (hbW.cell (p := ⟨g5, o5 + k * 4, none⟩) hg5).trans r0
          have t1 := (hbW.cell (p := ⟨g5, o5 + k * 4 + 1, none⟩) hg5).trans r1
          have t2 := (hbW.cell (p := ⟨g5, o5 + k * 4 + 2, none⟩) hg5).trans r2
          have t3 := (hbW.cell (p := ⟨g5, o5 + k * 4 + 3, none⟩) hg5).trans r3
          have HS := hide (fun m : Nat => sameBytes_yes bs (.slice Ax bs.length cx) (.slice Ab bs.length cb) (W.drewN m) ((r4.below hbW).below (below_drewN W m)) ((q4.below hbW).below (below_drewN W m)))
          have hbW' := hide (hB.out.trans (hbW.mono hB.out.size))
          clear kW r0 r1 r2 r3 r4 q4 hbW
          go_wp2_with fail
          rw [← hW.out]
          go_quiet ((go_at_call 13; exact Calls.quiet_of_same (HS.out _)))
          clear hcW t0 t1 t2 t3 HS q0 q1 q2 q3
          go_wp2_with fail
          go_round
          case rel => exact ⟨k + 1, by omega, by go_num, hbW'.out.trans ((below_drewN _ _).mono hbW'.out.size)⟩
          case measure => simp [intOf]; omega
        · have hltz : ¬ (k : Int) < (ops.length : Int) := by omega
          go_wp2
          go_ret
          exact ⟨rfl, hBA.out⟩
end Go.Proofs.YtcbkmcagnmpifaaGreatDoor
