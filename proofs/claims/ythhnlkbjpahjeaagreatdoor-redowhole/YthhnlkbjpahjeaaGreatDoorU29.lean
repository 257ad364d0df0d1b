/- An operation that replaces a file, done; a change, done. -/
/- A change, done: its operations one behind the other. -/
/- An operation's steps that L7 and L8 do not have: create, cut, remove; an append, a removal. -/
import Derived.Test.YthhnlkbjpahjeaaGreatDoorU28
section
namespace Go.Proofs.YthhnlkbjpahjeaaGreatDoor
open Go.RowKit Go.Maps Go.Sort
section
variable (w : World) (l : Nat) (Q : Value → World → Prop) (x : OpA) (a : Nat → Addr)
set_option maxRecDepth 8000 in
set_option maxHeartbeats 2000000 in
/-- The steps of a replacement, one behind the other. -/
theorem odo_replace (hk : x.kind = 2) (hQ : ∀ g w1, Below w.heap.size w w1 → w.heap.size ≤ g → g < w1.heap.size → RunsG a g [.func (.func 88) #[opAgg l x] #[], .func (.func 86) #[opAgg l x] #[], .func (.func 87) #[opAgg l x] #[]] w1 Q) :
    Calls Tryz.prog 51 #[opAgg l x] w (Ans Q) := by
  obtain ⟨kd, nm, att, vl, bs⟩ := x
  simp only at hk
  subst hk
  have hb : Below w.heap.size w ((w.alloc (.cells #[pv l, .int .i64 2, .string ⟨nm.toArray⟩, .int .i64 att, vl] 84)).alloc (.cells #[.func (.func 88) #[opAgg l ⟨2, nm, att, vl, bs⟩] #[], .func (.func 86) #[opAgg l ⟨2, nm, att, vl, bs⟩] #[], .func (.func 87) #[opAgg l ⟨2, nm, att, vl, bs⟩] #[]] 61)) := ((Below.refl _ _).alloc (Nat.le_refl _) _).alloc (by simp) _
  have HR := hide (run_any a _ (w.heap.size + 1) _ Q (Blk.new1 w (.cells #[pv l, .int .i64 2, .string ⟨nm.toArray⟩, .int .i64 att, vl] 84) [.func (.func 88) #[opAgg l ⟨2, nm, att, vl, bs⟩] #[], .func (.func 86) #[opAgg l ⟨2, nm, att, vl, bs⟩] #[], .func (.func 87) #[opAgg l ⟨2, nm, att, vl, bs⟩] #[]].toArray 61) (by simp) (hQ (w.heap.size + 1) _ hb (by omega) (by simp)))
  clear hQ hb
  unfold opAgg pv at *
  simp only at HR ⊢
  go_enter Tryz.func51, Tryz.ntmps51
  go_wp2_with (go_at_call 19; refine HR.out.mono ?_; rintro e w' ⟨v, rfl, hq⟩; replace hq := hide hq)
  go_ret
  exact ⟨_, rfl, hq.out⟩
end
end Go.Proofs.YthhnlkbjpahjeaaGreatDoor

end
section
namespace Go.Proofs.YthhnlkbjpahjeaaGreatDoor
open Go.RowKit Go.Maps Go.Sort
/-- Bytes that are none of the disk's. -/
def Frees (ρ : Nat → Option Role) (v : Value) (bs : List UInt8) : Prop := bs ≠ [] → ∀ A n c, v = .slice (some A) n c → ρ A.block = none
structure OPf (w : World) (ρ : Nat → Option Role) (v : Value) (ops : List OpA) : Prop where
  op : OPs w v ops
  fr : ops ≠ [] → ∀ A n c, v = .slice (some A) n c → ρ A.block = none
  vals : ∀ x ∈ ops, Frees ρ x.val x.bytes
section
variable {w w' : World} {ρ ρ' : Nat → Option Role} {v : Value}
theorem Turn.cell (h : Turn w w' ρ ρ') {a : Addr} (hb : a.block < w.heap.size) (hr : ρ a.block = none) : w'.cell? a = w.cell? a := h.1.cell hb (fun ⟨r, e⟩ => by rw [hr] at e; cases e)
theorem Frees.turn {bs : List UInt8} (h : Frees ρ v bs) (hb : BR w v bs) (ht : Turn w w' ρ ρ') : BR w' v bs ∧ Frees ρ' v bs := by
  by_cases h0 : bs = []
  · subst h0
    obtain ⟨A, c, h1, h2, h3, h4, h5⟩ := hb
    exact ⟨⟨A, c, h1, h2, h3, h4, fun h => absurd rfl h⟩, fun h => absurd rfl h⟩
  · obtain ⟨A, c, h1, h2, h3, h4, h5⟩ := hb
    obtain ⟨g, o, rfl, hg, h6⟩ := h5 (by simpa using h0)
    have hr : ρ g = none := h h0 ⟨g, o, none⟩ _ _ h1
    refine ⟨⟨_, c, h1, h2, h3, h4, fun _ => ⟨g, o, rfl, Nat.lt_of_lt_of_le hg ht.1.size, fun j u hu => ?_⟩⟩, fun _ A n c' e => ?_⟩
    · rw [ht.cell (a := ⟨g, o + j, none⟩) hg hr]
      exact h6 j u hu
    · rw [h1] at e
      simp only [Value.slice.injEq, Option.some.injEq] at e
      obtain ⟨rfl, _⟩ := e
      exact ht.off hg hr
theorem OPf.turn {ops : List OpA} (h : OPf w ρ v ops) (ht : Turn w w' ρ ρ') : OPf w' ρ' v ops := by
  obtain ⟨⟨A, c, h1, h2, h3, h4, h5⟩, h6, h7⟩ := h
  by_cases h0 : ops = []
  · subst h0
    exact ⟨⟨A, c, h1, h2, h3, h4, fun h => absurd rfl h⟩, fun h => absurd rfl h, fun x hx => by cases hx⟩
  · obtain ⟨g, o, rfl, hg, h8⟩ := h5 h0
    have hr : ρ g = none := h6 h0 ⟨g, o, none⟩ _ _ h1
    have hv : ∀ x ∈ ops, BR w x.val x.bytes := fun x hx => by
      obtain ⟨i, hi, rfl⟩ := List.getElem_of_mem hx
      exact (h8 i hi).2.2.2.2
    refine ⟨⟨_, c, h1, h2, h3, h4, fun _ => ⟨g, o, rfl, Nat.lt_of_lt_of_le hg ht.1.size, fun i hi => ?_⟩⟩, fun _ A n c' e => ?_, fun x hx => ((h7 x hx).turn (hv x hx) ht).2⟩
    · obtain ⟨k0, k1, k2, k3, k4⟩ := h8 i hi
      refine ⟨?_, ?_, ?_, ?_, ((h7 _ (List.getElem_mem hi)).turn k4 ht).1⟩
      · rw [ht.cell (a := ⟨g, _, none⟩) hg hr]; exact k0
      · rw [ht.cell (a := ⟨g, _, none⟩) hg hr]; exact k1
      · rw [ht.cell (a := ⟨g, _, none⟩) hg hr]; exact k2
      · rw [ht.cell (a := ⟨g, _, none⟩) hg hr]; exact k3
    · rw [h1] at e
      simp only [Value.slice.injEq, Option.some.injEq] at e
      obtain ⟨rfl, _⟩ := e
      exact ht.off hg hr
theorem OPf.then {ops : List OpA} (h : OPf w ρ v ops) (hb : Below w.heap.size w w') : OPf w' ρ v ops := ⟨h.op.below hb, h.fr, h.vals⟩
end
/-- A change's operations, done in order from w on, and the names made sure, end so. -/
def DoG (a : Nat → Addr) (l d : Nat) : List OpA → World → (Nat → Option Role) → (Value → World → Prop) → Prop
  | [], w, _, Q => ∀ w1, Below w.heap.size w w1 → Calls Tryz.prog 21 #[pv d] w1 (Ans Q)
  | x :: r, w, ρ, Q => ∀ w1, Below w.heap.size w w1 → Calls Tryz.prog 51 #[opAgg l x] w1 fun e w' => (e = .returned .nilIface ∧ ∃ ρ', Turn w1 w' ρ ρ' ∧ DoG a l d r w' ρ' Q) ∨ ∃ i, e = .returned (errV a i) ∧ Q (errV a i) w'
set_option maxRecDepth 8000 in
set_option maxHeartbeats 4000000 in
theorem do_any (a : Nat → Addr) (w : World) (l d : Nat) (dead : Bool) (Q : Value → World → Prop) (ρ : Nat → Option Role) (ops : List OpA) (vo vr : Value) (hl : Blk w l #[pv d, .bool dead] 59) (hρ : ∀ k r, ρ k = some r → k < w.heap.size) (rl : ρ l = none) (hO : OPf w ρ vo ops) (hQ : ∀ w1, Below w.heap.size w w1 → DoG a l d ops w1 ρ Q) :
    Calls Tryz.prog 26 #[.agg #[pv l, vo, vr]] w (Ans Q) := by
  have hb : Below w.heap.size w (w.alloc (.cells #[pv l, vo, vr] 65)) := (Below.refl _ _).alloc (Nat.le_refl _) _
  have K0 := hide (Blk.new w #[pv l, vo, vr] 65)
  have HL := hide (hl.below hb hl.lt)
  have HO := hide (hO.then hb)
  have HQ := hide (hQ _ hb)
  have hr0 : Hid (ρ w.heap.size = none) := by
    show _ = _
    cases hx : ρ w.heap.size with
    | none => rfl
    | some r => have := hρ _ _ hx; omega
  obtain ⟨A, c, rfl, hle, hm⟩ := hO.op.form
  have hmx : c ≤ 9223372036854775807 := by simp only [maxLen] at hm; omega
  replace rl := hide rl
  clear hl hb hQ hO hm hρ
  unfold pv at *
  go_enter Tryz.func26, Tryz.ntmps26
  go_wp2
  go_loopw [4, 5, 9] (fun _ _ u wr => ∃ (k : Nat) (ρr : Nat → Option Role), k ≤ ops.length ∧ u = .int .i64 k ∧ Hid (Blk wr w.heap.size #[.pointer (some ⟨l, 0, none⟩), .slice A ops.length c, vr] 65) ∧ Hid (ρr w.heap.size = none) ∧ Hid (Blk wr l #[.pointer (some ⟨d, 0, none⟩), .bool dead] 59) ∧ Hid (ρr l = none) ∧ Hid (OPf wr ρr (.slice A ops.length c) ops) ∧ Hid (DoG a l d (ops.drop k) wr ρr Q)) (fun _ _ u _ => ops.length - (intOf u).toNat)
  case atStart => exact ⟨0, ρ, Nat.zero_le _, rfl, K0, hr0, HL, rl, HO, HQ⟩
  case round =>
    obtain ⟨k, ρr, hkl, rfl, hK, hrK, hLr, hrL, hOr, hQr⟩ := hrel
    have hcK := hK.out.cell
    have hlK := hK.out.lt
    have hcL := hLr.out.cell
    have hlL := hLr.out.lt
    by_cases hlt : k < ops.length
    · have hltz : (k : Int) < (ops.length : Int) := by omega
      obtain ⟨g, o, rfl, hg, _, q0, q1, q2, q3, q4⟩ := hOr.out.op.at hlt
      obtain ⟨Ab, cb, hvb, _⟩ := q4.form
      have hD := hQr.out
      rw [List.drop_eq_getElem_cons hlt] at hD
      have hbW : Below wr.heap.size wr (wr.alloc (.cells ops[k].cells 48)) := (Below.refl _ _).alloc (Nat.le_refl _) _
      have HC := hide (hD _ hbW)
      have hbW' : Below wr.heap.size wr (wr.alloc (.cells #[.int .i64 ops[k].kind, .string ⟨ops[k].name.toArray⟩, .int .i64 ops[k].at_, ops[k].val] 48)) := hbW
      replace hbW' := hide hbW'
      unfold opAgg OpA.cells at HC
      generalize hx : ops[k] = x at q0 q1 q2 q3 hvb HC hbW'
      clear hx q4 hD hbW
      obtain ⟨kd, nm, att, vl, bs⟩ := x
      simp only at q0 q1 q2 q3 hvb HC hbW'
      subst hvb
      unfold pv at HC
      go_wp2_with fail
      refine HC.out.mono ?_
      rintro e w' (⟨rfl, ρ', ht, hQ'⟩ | ⟨i, rfl, hq⟩)
      · have hK' := hide (ht.blk (hK.out.below hbW'.out hlK) hrK.out)
        have hL' := hide (ht.blk (hLr.out.below hbW'.out hlL) hrL.out)
        have hrK' := hide (ht.off (by have := hbW'.out.size; omega) hrK.out)
        have hrL' := hide (ht.off (by have := hbW'.out.size; omega) hrL.out)
        have hO' := hide ((hOr.out.then hbW'.out).turn ht)
        replace hQ' := hide hQ'
        clear ht HC hcK hcL q0 q1 q2 q3
        go_wp2_with fail
        go_round
        case rel => exact ⟨k + 1, ρ', by omega, by go_num, hK', hrK', hL', hrL', hO', hQ'⟩
        case measure => simp [intOf]; omega
      · replace hq := hide hq
        clear HC
        unfold errV at *
        go_wp2
        go_ret
        exact ⟨_, rfl, hq.out⟩
    · have hltz : ¬ (k : Int) < (ops.length : Int) := by omega
      have hD := hQr.out
      rw [List.drop_eq_nil_of_le (by omega)] at hD
      have HC := hide (hD wr (Below.refl _ _))
      unfold pv at HC
      clear hD
      go_wp2_with (go_at_call 21; refine HC.out.mono ?_; rintro e w' ⟨v, rfl, hq⟩; replace hq := hide hq)
      go_ret
      exact ⟨_, rfl, hq.out⟩
end Go.Proofs.YthhnlkbjpahjeaaGreatDoor

end
section
namespace Go.Proofs.YthhnlkbjpahjeaaGreatDoor
open Go.RowKit Go.Maps Go.Sort
section
variable (w : World) (l d : Nat) (dead : Bool) (Q : Value → World → Prop) (x : OpA)
set_option maxRecDepth 8000 in
set_option maxHeartbeats 4000000 in
theorem ocreate_create (hl : Blk w l #[pv d, .bool dead] 59) (hT : ∀ w1, Below w.heap.size w w1 → Calls Tryz.prog 111 #[opAgg l x] w1 fun e w' => e = .returned (.bool false) ∧ Below w1.heap.size w1 w') (hc : ∀ w1, Below w.heap.size w w1 → Calls Tryz.prog 36 #[pv d, .string ⟨x.name.toArray⟩] w1 (Ans Q)) : Calls Tryz.prog 84 #[opAgg l x] w (Ans Q) := by
  have hb : Below w.heap.size w (w.alloc (.cells #[pv l, .int .i64 x.kind, .string ⟨x.name.toArray⟩, .int .i64 x.at_, x.val] 84)) := (Below.refl _ _).alloc (Nat.le_refl _) _
  have k0 := hide (Blk.new w #[pv l, .int .i64 x.kind, .string ⟨x.name.toArray⟩, .int .i64 x.at_, x.val] 84)
  have HT := hide (hT _ hb)
  have HL := hide hl
  have HB := hide hb
  replace hc := hide hc
  obtain ⟨kd, nm, att, vl, bs⟩ := x
  simp only at HB hc k0 HT
  clear hl hb hT
  unfold opAgg pv at *
  simp only at HT ⊢
  go_enter Tryz.func84, Tryz.ntmps84
  go_wp2_with fail
  refine HT.out.mono ?_
  rintro e w1 ⟨rfl, hb1⟩
  have hck := (k0.out.below hb1 k0.out.lt).cell
  have HB1 := hide (HB.out.trans (hb1.mono HB.out.size))
  have hcl := (HL.out.below HB1.out HL.out.lt).cell
  clear hb1 k0 HL HT
  go_wp2_with fail
  go_region_with (go_at_call 36; refine (hc.out _ HB1.out.drew).mono ?_; rintro e w' ⟨v, rfl, hq⟩; replace hq := hide hq)
  all_goals go_wp2
  all_goals go_ret
  all_goals exact ⟨_, rfl, hq.out⟩
set_option maxRecDepth 8000 in
set_option maxHeartbeats 4000000 in
theorem ocreate_there (hT : ∀ w1, Below w.heap.size w w1 → Calls Tryz.prog 111 #[opAgg l x] w1 fun e w' => e = .returned (.bool true) ∧ Below w1.heap.size w1 w') (hc : ∀ w1, Below w.heap.size w w1 → Q .nilIface w1) : Calls Tryz.prog 84 #[opAgg l x] w (Ans Q) := by
  have hb : Below w.heap.size w (w.alloc (.cells #[pv l, .int .i64 x.kind, .string ⟨x.name.toArray⟩, .int .i64 x.at_, x.val] 84)) := (Below.refl _ _).alloc (Nat.le_refl _) _
  have HT := hide (hT _ hb)
  have HB := hide hb
  replace hc := hide hc
  obtain ⟨kd, nm, att, vl, bs⟩ := x
  simp only at HB HT
  clear hb hT
  unfold opAgg pv at *
  simp only at HT ⊢
  go_enter Tryz.func84, Tryz.ntmps84
  go_wp2_with fail
  refine HT.out.mono ?_
  rintro e w1 ⟨rfl, hb1⟩
  have HB1 := hide (HB.out.trans (hb1.mono HB.out.size))
  clear hb1 HT
  go_wp2
  go_ret
  exact ⟨_, rfl, hc.out _ HB1.out⟩
set_option maxRecDepth 8000 in
set_option maxHeartbeats 4000000 in
theorem oremove_yes (hl : Blk w l #[pv d, .bool dead] 59) (hT : ∀ w1, Below w.heap.size w w1 → Calls Tryz.prog 111 #[opAgg l x] w1 fun e w' => e = .returned (.bool true) ∧ Below w1.heap.size w1 w') (hc : ∀ w1, Below w.heap.size w w1 → Calls Tryz.prog 112 #[pv d, .string ⟨x.name.toArray⟩] w1 (Ans Q)) : Calls Tryz.prog 89 #[opAgg l x] w (Ans Q) := by
  have hb : Below w.heap.size w (w.alloc (.cells #[pv l, .int .i64 x.kind, .string ⟨x.name.toArray⟩, .int .i64 x.at_, x.val] 84)) := (Below.refl _ _).alloc (Nat.le_refl _) _
  have k0 := hide (Blk.new w #[pv l, .int .i64 x.kind, .string ⟨x.name.toArray⟩, .int .i64 x.at_, x.val] 84)
  have HT := hide (hT _ hb)
  have HL := hide hl
  have HB := hide hb
  replace hc := hide hc
  obtain ⟨kd, nm, att, vl, bs⟩ := x
  simp only at HB hc k0 HT
  clear hl hb hT
  unfold opAgg pv at *
  simp only at HT ⊢
  go_enter Tryz.func89, Tryz.ntmps89
  go_wp2_with fail
  refine HT.out.mono ?_
  rintro e w1 ⟨rfl, hb1⟩
  have hck := (k0.out.below hb1 k0.out.lt).cell
  have HB1 := hide (HB.out.trans (hb1.mono HB.out.size))
  have hcl := (HL.out.below HB1.out HL.out.lt).cell
  clear hb1 k0 HL HT
  go_wp2_with fail
  go_region_with (go_at_call 112; refine (hc.out _ HB1.out.drew).mono ?_; rintro e w' ⟨v, rfl, hq⟩; replace hq := hide hq)
  all_goals go_wp2
  all_goals go_ret
  all_goals exact ⟨_, rfl, hq.out⟩
set_option maxRecDepth 8000 in
set_option maxHeartbeats 4000000 in
theorem oremove_none (hT : ∀ w1, Below w.heap.size w w1 → Calls Tryz.prog 111 #[opAgg l x] w1 fun e w' => e = .returned (.bool false) ∧ Below w1.heap.size w1 w') (hc : ∀ w1, Below w.heap.size w w1 → Q .nilIface w1) : Calls Tryz.prog 89 #[opAgg l x] w (Ans Q) := by
  have hb : Below w.heap.size w (w.alloc (.cells #[pv l, .int .i64 x.kind, .string ⟨x.name.toArray⟩, .int .i64 x.at_, x.val] 84)) := (Below.refl _ _).alloc (Nat.le_refl _) _
  have HT := hide (hT _ hb)
  have HB := hide hb
  replace hc := hide hc
  obtain ⟨kd, nm, att, vl, bs⟩ := x
  simp only at HB HT
  clear hb hT
  unfold opAgg pv at *
  simp only at HT ⊢
  go_enter Tryz.func89, Tryz.ntmps89
  go_wp2_with fail
  refine HT.out.mono ?_
  rintro e w1 ⟨rfl, hb1⟩
  have HB1 := hide (HB.out.trans (hb1.mono HB.out.size))
  clear hb1 HT
  go_wp2
  go_ret
  exact ⟨_, rfl, hc.out _ HB1.out⟩
end
section
variable (w0 w : World) (l d : Nat) (dead : Bool) (ρ : Nat → Option Role) (s : St) (x : OpA) (Q : Value → World → Prop)
set_option maxRecDepth 8000 in
set_option maxHeartbeats 4000000 in
theorem ocut_short (h : LG w0 w l d dead ρ s) (hoff : s.off = false) (hr : rightB x.name = true) (b : Nat) (fa : FA) (hat : s.D.atKey (.string x.name) .nil = pd b) (hφ : s.φ b = some fa) (hle : (fa.bytes.length : Int) ≤ x.at_) (hc : ∀ w1, Below w.heap.size w w1 → Q .nilIface w1) :
    Calls Tryz.prog 85 #[opAgg l x] w (Ans Q) := by
  obtain ⟨W, hW⟩ : ∃ W, Hid (W = w.alloc (.cells #[pv l, .int .i64 x.kind, .string ⟨x.name.toArray⟩, .int .i64 x.at_, x.val] 84)) := ⟨_, rfl⟩
  have hb : Below w.heap.size w W := by rw [hW.out]; exact (Below.refl _ _).alloc (Nat.le_refl _) _
  have k0 : Blk W w.heap.size #[pv l, .int .i64 x.kind, .string ⟨x.name.toArray⟩, .int .i64 x.at_, x.val] 84 := by rw [hW.out]; exact Blk.new _ _ _
  have hL := h.then hb
  have HS := hide (fun m : Nat => size_there w0 (W.drewN m) d ρ s (hL.dk.drewN m) hoff x.name hr b fa hat hφ)
  have hcl := hL.lb.cell
  have hck := k0.cell
  have HB := hide hb
  replace hc := hide hc
  have K0 := hide k0
  obtain ⟨kd, nm, att, vl, bs⟩ := x
  simp only at HB hW HS hck hle K0
  clear h hb k0 hL hat
  unfold opAgg pv at *
  simp only
  go_enter Tryz.func85, Tryz.ntmps85
  go_wp2_with fail
  rw [← hW.out]
  go_quiet ((go_at_call 108; exact Calls.quiet_of_same (HS.out _)))
  have hb' := hide (HB.out.trans ((below_drewN W nq).mono HB.out.size))
  have hck2 := (K0.out.drewN nq).cell
  generalize W.drewN nq = W2 at *
  clear hcl hck HS
  go_wp2
  go_ret
  exact ⟨_, rfl, hc.out _ hb'.out⟩
set_option maxRecDepth 8000 in
set_option maxHeartbeats 4000000 in
theorem ocut_cut (h : LG w0 w l d dead ρ s) (hoff : s.off = false) (hr : rightB x.name = true) (b : Nat) (fa : FA) (hat : s.D.atKey (.string x.name) .nil = pd b) (hφ : s.φ b = some fa) (hgt : x.at_ < (fa.bytes.length : Int)) (hc : ∀ w1, Below w.heap.size w w1 → Calls Tryz.prog 52 #[pv d, .string ⟨x.name.toArray⟩, .int .i64 x.at_] w1 (Ans Q)) :
    Calls Tryz.prog 85 #[opAgg l x] w (Ans Q) := by
  obtain ⟨W, hW⟩ : ∃ W, Hid (W = w.alloc (.cells #[pv l, .int .i64 x.kind, .string ⟨x.name.toArray⟩, .int .i64 x.at_, x.val] 84)) := ⟨_, rfl⟩
  have hb : Below w.heap.size w W := by rw [hW.out]; exact (Below.refl _ _).alloc (Nat.le_refl _) _
  have k0 : Blk W w.heap.size #[pv l, .int .i64 x.kind, .string ⟨x.name.toArray⟩, .int .i64 x.at_, x.val] 84 := by rw [hW.out]; exact Blk.new _ _ _
  have hL := h.then hb
  have HS := hide (fun m : Nat => size_there w0 (W.drewN m) d ρ s (hL.dk.drewN m) hoff x.name hr b fa hat hφ)
  have hcl := hL.lb.cell
  have hck := k0.cell
  have HB := hide hb
  replace hc := hide hc
  have K0 := hide k0
  have L0 := hide hL.lb
  have hle : ¬ (fa.bytes.length : Int) ≤ x.at_ := by omega
  obtain ⟨kd, nm, att, vl, bs⟩ := x
  simp only at HB hW HS hck hgt K0 hle hc
  clear h hb k0 hL hat
  unfold opAgg pv at *
  simp only
  go_enter Tryz.func85, Tryz.ntmps85
  go_wp2_with fail
  rw [← hW.out]
  go_quiet ((go_at_call 108; exact Calls.quiet_of_same (HS.out _)))
  have hb' := hide (HB.out.trans ((below_drewN W nq).mono HB.out.size))
  have hck2 := (K0.out.drewN nq).cell
  have hcl2 := (L0.out.drewN nq).cell
  generalize W.drewN nq = W2 at *
  clear hcl hck HS K0 L0
  go_wp2_with fail
  go_region_with (go_at_call 52; refine (hc.out _ hb'.out.drew).mono ?_; rintro e w' ⟨v, rfl, hq⟩; replace hq := hide hq)
  all_goals go_wp2
  all_goals go_ret
  all_goals exact ⟨_, rfl, hq.out⟩
end
section
variable (w : World) (l : Nat) (Q : Value → World → Prop) (x : OpA) (a : Nat → Addr)
set_option maxRecDepth 8000 in
set_option maxHeartbeats 2000000 in
/-- The steps of an append, one behind the other. -/
theorem odo_append (hk : x.kind = 1) (hQ : ∀ g w1, Below w.heap.size w w1 → w.heap.size ≤ g → g < w1.heap.size → RunsG a g [.func (.func 84) #[opAgg l x] #[], .func (.func 85) #[opAgg l x] #[], .func (.func 86) #[opAgg l x] #[], .func (.func 87) #[opAgg l x] #[]] w1 Q) :
    Calls Tryz.prog 51 #[opAgg l x] w (Ans Q) := by
  obtain ⟨kd, nm, att, vl, bs⟩ := x
  simp only at hk
  subst hk
  have hb : Below w.heap.size w ((w.alloc (.cells #[pv l, .int .i64 1, .string ⟨nm.toArray⟩, .int .i64 att, vl] 84)).alloc (.cells #[.func (.func 84) #[opAgg l ⟨1, nm, att, vl, bs⟩] #[], .func (.func 85) #[opAgg l ⟨1, nm, att, vl, bs⟩] #[], .func (.func 86) #[opAgg l ⟨1, nm, att, vl, bs⟩] #[], .func (.func 87) #[opAgg l ⟨1, nm, att, vl, bs⟩] #[]] 61)) := ((Below.refl _ _).alloc (Nat.le_refl _) _).alloc (by simp) _
  have HR := hide (run_any a _ (w.heap.size + 1) _ Q (Blk.new1 w (.cells #[pv l, .int .i64 1, .string ⟨nm.toArray⟩, .int .i64 att, vl] 84) [.func (.func 84) #[opAgg l ⟨1, nm, att, vl, bs⟩] #[], .func (.func 85) #[opAgg l ⟨1, nm, att, vl, bs⟩] #[], .func (.func 86) #[opAgg l ⟨1, nm, att, vl, bs⟩] #[], .func (.func 87) #[opAgg l ⟨1, nm, att, vl, bs⟩] #[]].toArray 61) (by simp) (hQ (w.heap.size + 1) _ hb (by omega) (by simp)))
  clear hQ hb
  unfold opAgg pv at *
  simp only at HR ⊢
  go_enter Tryz.func51, Tryz.ntmps51
  go_wp2_with (go_at_call 19; refine HR.out.mono ?_; rintro e w' ⟨v, rfl, hq⟩; replace hq := hide hq)
  go_ret
  exact ⟨_, rfl, hq.out⟩
set_option maxRecDepth 8000 in
set_option maxHeartbeats 2000000 in
theorem odo_remove (hk : x.kind = 3) (hc : ∀ w1, Below w.heap.size w w1 → Calls Tryz.prog 89 #[opAgg l x] w1 (Ans Q)) : Calls Tryz.prog 51 #[opAgg l x] w (Ans Q) := by
  obtain ⟨kd, nm, att, vl, bs⟩ := x
  simp only at hk
  subst hk
  have hb : Below w.heap.size w (w.alloc (.cells #[pv l, .int .i64 3, .string ⟨nm.toArray⟩, .int .i64 att, vl] 84)) := (Below.refl _ _).alloc (Nat.le_refl _) _
  have HR := hide (hc _ hb)
  clear hc hb
  unfold opAgg pv at *
  simp only at HR ⊢
  go_enter Tryz.func51, Tryz.ntmps51
  go_wp2_with (go_at_call 89; refine HR.out.mono ?_; rintro e w' ⟨v, rfl, hq⟩; replace hq := hide hq)
  go_ret
  exact ⟨_, rfl, hq.out⟩
end
end Go.Proofs.YthhnlkbjpahjeaaGreatDoor

end
