/- A disk: the count of steps where the power is armed; what is asked and set. -/
/- A disk: Sync. -/
/- A disk: the calls that take a step, whether the power is armed or not. -/
import Derived.Test.YthhnlkbjpahjeaaGreatDoorU08
section
namespace Go.Proofs.YthhnlkbjpahjeaaGreatDoor
open Go.RowKit Go.Maps
/-- Behind how many steps the power goes, one step on. -/
def dec (m : Int) : Int := if 0 < m then m - 1 else m
theorem dec_neg {m : Int} (h : m < 0) : dec m = m := if_neg (by omega)
set_option maxHeartbeats 1000000 in
theorem takeStep_ok (w : World) (d : Nat) (v0 v1 v2 v3 v4 v5 v6 v9 v10 : Value) (n m : Int) (hk : Blk w d #[v0, v1, v2, v3, v4, v5, v6, .int .i64 n, .int .i64 m, v9, v10] 56) (hm : m ≠ 0) (hm1 : m ≤ 9223372036854775807) (hn : 0 ≤ n) (hn2 : n ≤ 1000000000) :
    Calls Tryz.prog 37 #[pv d] w fun e w' => e = .returned .nilIface ∧ Mvs (fun k => k = d) w w' ∧ Blk w' d #[v0, v1, v2, v3, v4, v5, v6, .int .i64 (n + 1), .int .i64 (dec m), v9, v10] 56 := by
  by_cases hp : 0 < m
  · have hc := hk.cell
    have hf := hk.frozen
    have g0 : (m == 0) = false := by simp; omega
    have g2 : decide (0 < m) = true := decide_eq_true hp
    have HK := hide hk
    clear hk
    unfold pv
    go_enter Tryz.func37, Tryz.ntmps37
    go_wp2
    go_ret
    refine ⟨rfl, ((Mvs.refl (fun k => k = d) w).setCell ⟨d, 8, none⟩ _ (fun _ => rfl)).setCell ⟨d, 7, none⟩ _ (fun _ => rfl), ?_⟩
    rw [show dec m = m - 1 from if_pos hp]
    exact (HK.out.set 8 _).set 7 _
  · refine (takeStep_free w d _ _ _ _ _ _ _ _ _ n m hk (by omega) hn hn2).mono fun e w' ⟨he, hw⟩ => ⟨he, ?_, ?_⟩
    · rw [hw]
      exact (Mvs.refl (fun k => k = d) w).setCell ⟨d, 7, none⟩ _ (fun _ => rfl)
    · rw [hw, show dec m = m from if_neg hp]
      exact hk.set 7 _
set_option maxHeartbeats 1000000 in
/-- The power goes. -/
theorem takeStep_gone (w : World) (d : Nat) (v0 v1 v2 v3 v4 v5 v6 v7 v9 v10 : Value) (hk : Blk w d #[v0, v1, v2, v3, v4, v5, v6, v7, .int .i64 0, v9, v10] 56) (a : Nat → Addr) (hE : w.cell? ⟨2, 0, none⟩ = some (errV a 7)) (_ : d ≠ 2) (_ : 2 ≠ d) :
    Calls Tryz.prog 37 #[pv d] w fun e w' => e = .returned (errV a 7) ∧ w' = w.setCell ⟨d, 9, none⟩ (.bool true) := by
  have hc := hk.cell
  have hf := hk.frozen
  clear hk
  unfold pv errV at *
  go_enter Tryz.func37, Tryz.ntmps37
  go_wp2
  go_ret
  exact ⟨rfl, rfl⟩
section
variable (w0 w : World) (d : Nat) (ρ : Nat → Option Role) (s : St)
set_option maxHeartbeats 1000000 in
/-- The power is off. -/
theorem find_off (a : Nat → Addr) (hE : Errs w0 a) (h : DK w0 w d ρ s) (hoff : s.off = true) (v : Value) :
    Calls Tryz.prog 63 #[pv d, v] w fun e w' => e = .returned (.tuple #[.pointer none, errV a 7]) ∧ ∃ m, w' = w.drewN m := by
  have hce : w.cell? ⟨2, 0, none⟩ = some (errV a 7) := (hE.below h.below).cell 7 (by decide)
  obtain ⟨bn, bs, bc, vs, vl, Gs, Gl, cs, h⟩ := h
  have hc := h.blk.cell
  rw [hoff] at hc
  clear h hE
  unfold pv errV at *
  go_enter Tryz.func63, Tryz.ntmps63
  go_wp2_with fail
  go_quiet (fail)
  go_wp2
  go_ret2
  exact ⟨rfl, _, rfl⟩
set_option maxHeartbeats 1000000 in
theorem off_any (h : DK w0 w d ρ s) : Calls Tryz.prog 42 #[pv d] w fun e w' => e = .returned (.bool s.off) ∧ w' = w := by
  obtain ⟨bn, bs, bc, vs, vl, Gs, Gl, cs, h⟩ := h
  have hc := h.blk.cell
  clear h
  unfold pv
  go_enter Tryz.func42, Tryz.ntmps42
  go_wp2
  go_ret
  exact ⟨rfl, rfl⟩
set_option maxHeartbeats 1000000 in
theorem quota_any (h : DK w0 w d ρ s) : Calls Tryz.prog 47 #[pv d] w fun e w' => e = .returned (.int .i64 s.quota) ∧ w' = w := by
  obtain ⟨bn, bs, bc, vs, vl, Gs, Gl, cs, h⟩ := h
  have hc := h.blk.cell
  clear h
  unfold pv
  go_enter Tryz.func47, Tryz.ntmps47
  go_wp2
  go_ret
  exact ⟨rfl, rfl⟩
set_option maxHeartbeats 1000000 in
theorem arm_any (h : DK w0 w d ρ s) (n : Int) : Calls Tryz.prog 12 #[pv d, .int .i64 n] w fun e w' => e = .returned (.tuple #[]) ∧ DK w0 w' d ρ { s with armed := n } ∧ Turn w w' ρ ρ := by
  obtain ⟨bn, bs, bc, vs, vl, Gs, Gl, cs, h⟩ := h
  have hc := h.blk.cell
  have hf := h.blk.frozen
  have HD := hide h
  clear h
  unfold pv
  go_enter Tryz.func12, Tryz.ntmps12
  go_wp2
  go_end0
  have hm : Mvs (fun k => k = d) w (w.setCell ⟨d, 8, none⟩ (.int .i64 n)) := (Mvs.refl (fun k => k = d) w).setCell ⟨d, 8, none⟩ _ (fun _ => rfl)
  exact ⟨rfl, ⟨_, _, _, _, _, _, _, _, HD.out.ints hm s.created s.opened s.steps n s.off s.quota (HD.out.blk.set 8 _)⟩, hm.mono fun k _ e => by subst e; exact ⟨_, HD.out.rd⟩, fun k r hr _ => ⟨r, hr⟩⟩
/-- Sync, behind the step: the file's row of open steps is let go. -/
def St.syncd (s : St) (b : Nat) (fa : FA) : St := { (s.withF b ⟨fa.num, fa.bytes, []⟩) with ch := s.ch.del (.int .i64 fa.num), N := s.N + 1, opened := s.opened - fa.opn.length, steps := s.steps + 1, armed := dec s.armed }
end
end Go.Proofs.YthhnlkbjpahjeaaGreatDoor

end
section
namespace Go.Proofs.YthhnlkbjpahjeaaGreatDoor
open Go.RowKit Go.Maps
/-- delete, as one step of a statement that draws its order. -/
theorem step_delete {P : Program} {ops : Array Oper} {o : Oper} {a : Act} {w : World} {K : Act → World → Prop} {Q : Exit → Act → World → Prop} {E : Prop} {R : Value → Option (DataW Unit × List MemPlace)}
    (hg : o.guard = none) (m x : Operand) (t k : TypeId) (hop : o.op = Op.call { callee := Callee.builtin Builtin.delete, args := #[m, x], argTypes := #[t, k] })
    (e : TypeId) (KK : Keyed P k) (ht : P.underlying t = some (.map k e)) {b n : Nat} {D : DataW Unit} (hm : a.eval m = .map (some b)) (hown : w.ownsMap P k R b n D) (key : Value) (kl : Lit) (hx : a.eval x = key) (hkey : keyOf P k key = some kl)
    (hK : ∀ w', w'.ownsMap P k R b n (D.del kl) → w.mapTurned w' b → K (a.put o.dst (.tuple #[])) w') : if Region.wanted o (yielded ops a.tmps) = true then Oper.wp P o a w K Q else E := by
  have hw : Region.wanted o (yielded ops a.tmps) = true := by simp [Region.wanted, hg]
  rw [if_pos hw]
  obtain ⟨w', hrun, r1, r2⟩ := hown.drop KK ht hkey o.type
  unfold Oper.wp
  simp [execOp, hop, resolve, invoke, builtin, hm, hx, hrun, Result.andThen]
  exact hK w' r1 r2
section
variable (w0 w : World) (d : Nat) (ρ : Nat → Option Role) (s : St)
set_option maxRecDepth 20000 in
set_option maxHeartbeats 4000000 in
theorem sync_ok (h : DK w0 w d ρ s) (hoff : s.off = false) (ha : s.armed ≠ 0) (ha1 : s.armed ≤ 9223372036854775807) (hs0 : 0 ≤ s.steps) (hs1 : s.steps ≤ 1000000) (ho1 : s.opened ≤ 1000000)
    (name : List UInt8) (hr : rightB name = true) (b : Nat) (fa : FA) (hat : s.D.atKey (.string name) .nil = pd b) (hφ : s.φ b = some fa) (hn0 : 0 ≤ fa.num) (hn1 : fa.num ≤ 1000000) (hop : (fa.opn.length : Int) ≤ s.opened) :
    Calls Tryz.prog 50 #[pv d, .string ⟨name.toArray⟩] w fun e w' => e = .returned .nilIface ∧ DK w0 w' d ρ (s.syncd b fa) ∧ Turn w w' ρ ρ := by
  have HF := hide (find_there w0 w d ρ s h hoff name hr b hat)
  obtain ⟨bn, bs, bc, vs, vl, Gs, Gl, cs, h⟩ := h
  have HD := hide h
  have hne := h.ne
  clear h hat
  unfold pv at HF ⊢
  go_enter Tryz.func50, Tryz.ntmps50
  go_wp2_with (go_at_call 63; refine HF.out.mono ?_; rintro e w ⟨rfl, rfl⟩)
  refine (takeStep_ok _ d _ _ _ _ _ _ _ _ _ _ _ HD.out.blk ha ha1 hs0 (by omega)).mono ?_
  rintro e w1 ⟨rfl, hm1, hk1⟩
  have H1 := hide (HD.out.ints hm1 s.created s.opened (s.steps + 1) (dec s.armed) s.off s.quota hk1)
  have HM1 := hide hm1
  obtain ⟨vb, vo, Gb, Go, fs, hF⟩ := H1.out.files b fa hφ
  obtain ⟨Ao, co, rfl⟩ := hF.orow.form
  have HFs := hide hF
  have hcF := hF.blk.cell
  have hfF := hF.blk.frozen
  have hcd := hk1.cell
  have hfd := hk1.frozen
  have HK1 := hide hk1
  have hbd : b ≠ d := fun e => by have := hF.role; rw [e, HD.out.rd] at this; cases this
  have hdb : d ≠ b := fun e => hbd e.symm
  clear hm1 hk1 hF HF
  go_wp2_with fail
  go_region
  go_wp2_with fail
  have hm2 : Mvs (fun k => k = d) w1 (w1.setCell ⟨d, 6, none⟩ (.int .i64 (s.opened - fa.opn.length))) := (Mvs.refl (fun k => k = d) w1).setCell ⟨d, 6, none⟩ _ (fun _ => rfl)
  have hD2 := H1.out.ints hm2 s.created (s.opened - fa.opn.length) (s.steps + 1) (dec s.armed) s.off s.quota (HK1.out.set 6 _)
  have hm3 : Mvs (fun k => k = b) (w1.setCell ⟨d, 6, none⟩ (.int .i64 (s.opened - fa.opn.length))) ((w1.setCell ⟨d, 6, none⟩ (.int .i64 (s.opened - fa.opn.length))).setCell ⟨b, 2, none⟩ (.slice none 0 0)).drew := ((Mvs.refl (fun k => k = b) _).setCell ⟨b, 2, none⟩ _ (fun _ => rfl)).drew
  have kb3 : Blk ((w1.setCell ⟨d, 6, none⟩ (.int .i64 (s.opened - fa.opn.length))).setCell ⟨b, 2, none⟩ (.slice none 0 0)).drew b #[.int .i64 fa.num, vb, .slice none 0 0] 100 := (hm2.blk HFs.out.blk hbd).set 2 _
  have hgb : ∀ g, Gb = some g → g ≠ d ∧ g ≠ b := fun g hg => by
    have r1 := HFs.out.rb g hg
    exact ⟨(fun e => by rw [e, HD.out.rd] at r1; cases r1), (fun e => by rw [e, HFs.out.role] at r1; cases r1)⟩
  have hF3 : FileR ((w1.setCell ⟨d, 6, none⟩ (.int .i64 (s.opened - fa.opn.length))).setCell ⟨b, 2, none⟩ (.slice none 0 0)).drew ρ b ⟨fa.num, fa.bytes, []⟩ :=
    ⟨vb, _, Gb, none, [], HFs.out.role, kb3, (HFs.out.row.keep hm2 (fun g hg => (hgb g hg).1)).keep hm3 (fun g hg => (hgb g hg).2), HFs.out.rb, Rw.nil _ _, (fun _ h => by cases h), trivial⟩
  have hD3 := hD2.setFile (Gb := Gb) (Go := none) (fa := ⟨fa.num, fa.bytes, []⟩) (hm3.mono fun _ _ e => .inl e) HFs.out.role HFs.out.rb (fun _ h => by cases h) (fun _ _ hr => hr) (fun k r hr => ⟨(hD2.low k r hr).1, Nat.lt_of_lt_of_le (hD2.low k r hr).2 hm3.size⟩) hF3
  have hmT : Mvs (fun k => ∃ r, ρ k = some r) w ((w1.setCell ⟨d, 6, none⟩ (.int .i64 (s.opened - fa.opn.length))).setCell ⟨b, 2, none⟩ (.slice none 0 0)).drew := ((HM1.out.trans hm2).mono (fun k _ e => by subst e; exact ⟨_, HD.out.rd⟩)).trans (hm3.mono fun k _ e => by subst e; exact ⟨_, HFs.out.role⟩)
  generalize ((w1.setCell ⟨d, 6, none⟩ _).setCell ⟨b, 2, none⟩ _).drew = w3 at *
  have hk3 : Blk w3 d #[.map (some bn), .map (some bs), vs, .map (some bc), vl, .int .i64 s.created, .int .i64 (s.opened - fa.opn.length), .int .i64 (s.steps + 1), .int .i64 (dec s.armed), .bool s.off, .int .i64 s.quota] 56 := hD3.blk
  have hc3 := hk3.cell
  have hcb3 := kb3.cell
  have HD3 := hide (hD3.keep (S := fun _ => False) (Mvs.refl _ w3).drew (fun _ _ _ c => c) (fun _ c => c.elim))
  have HO3 := hide (show w3.drew.ownsMap Tryz.prog 3 ptrElem bc s.N s.ch from hD3.chg)
  have HT := hide hmT
  have HKI := hide (keyInt fa.num hn0 (by omega))
  clear hm2 hD2 hm3 kb3 hF3 hD3 hmT hk3 hcF hfF hcd hfd H1 HM1 HK1 HFs hgb
  go_region_law (refine step_delete rfl (.tmp 40) (.tmp 44) 52 3 rfl 72 intKeyed Tryz.underlying52 (by simp [Act.eval]) HO3.out (.int .i64 fa.num) (.int .i64 fa.num) (by simp [Act.eval]) HKI.out ?_
                 intro w4 hown4 hturn4
                 have HO4 := hide hown4
                 have HT4 := hide hturn4
                 clear hown4 hturn4)
  all_goals (
    go_wp2
    go_ret
    have hm4 := Mvs.of_turned HT4.out
    have hD4 := HD3.out.chn hm4 _ (HO4.out.mono (Nat.le_succ _))
    exact ⟨rfl, ⟨_, _, _, _, _, _, _, _, hD4⟩, (HT.out.trans (Mvs.refl _ w3).drew).trans (hm4.mono fun k _ e => by subst e; exact ⟨_, HD.out.rc⟩), fun k r hr _ => ⟨r, hr⟩⟩)
end
end Go.Proofs.YthhnlkbjpahjeaaGreatDoor

end
section
namespace Go.Proofs.YthhnlkbjpahjeaaGreatDoor
open Go.RowKit Go.Maps
structure St.SmallG (s : St) : Prop where
  armed : s.armed ≠ 0
  armed1 : s.armed ≤ 9223372036854775807
  s0 : 0 ≤ s.steps
  s1 : s.steps ≤ 1000000
  o0 : 0 ≤ s.opened
  o1 : s.opened ≤ 1000000
  n : s.N ≤ 100000
  off : s.off = false
  q0 : 0 ≤ s.quota
  q1 : s.quota ≤ 1073741824
  u : usedOf s ≤ 1000000000
set_option maxRecDepth 8000 in
set_option maxHeartbeats 2000000 in
theorem changeNames_createG (w0 w : World) (d : Nat) (ρ : Nat → Option Role) (s : St) (name : List UInt8) (f cf cn : Nat) (h : DK w0 w d ρ s) (ha : s.armed ≠ 0) (ha1 : s.armed ≤ 9223372036854775807) (hs0 : 0 ≤ s.steps) (hs1 : s.steps ≤ 1000000) (ho0 : 0 ≤ s.opened) (ho1 : s.opened ≤ 1000000) (hN : s.N ≤ 100000) (hns : s.ns ≤ 1000000)
    (hl : name.length ≤ 1000000) (hcf : Blk w cf #[pv f] 72) (hcn : Blk w cn #[.string ⟨name.toArray⟩] 9) (hrf : ρ cf = some .cap) (hrn : ρ cn = some .cap) (hφ : (s.φ f).isSome = true) :
    Calls Tryz.prog 66 #[pv d, fnV cf cn] w fun e w' => e = .returned .nilIface ∧ ∃ ρ', DK w0 w' d ρ' { s with D := s.D.put (.string name) (pd f), N := s.N + 1, ns := s.ns + 1, nl := s.nl ++ [.mk name f], opened := s.opened + 1, steps := s.steps + 1, armed := dec s.armed } ∧ Turn w w' ρ ρ' ∧ Keeps ρ ρ' := by
  obtain ⟨bn, bs, bc, vs, vl, Gs, Gl, cs, h⟩ := h
  obtain ⟨i0, hi, hz0, hz1, hz2⟩ := info_parts funInfo
  have hne := h.ne
  have HD := hide h
  have hnf : cf ≠ d := fun e => by rw [e, h.rd] at hrf; cases hrf
  have hnn : cn ≠ d := fun e => by rw [e, h.rd] at hrn; cases hrn
  clear h
  unfold fnV pv
  go_enter Tryz.func66, Tryz.ntmps66
  go_wp2_with fail
  refine (takeStep_ok _ d _ _ _ _ _ _ _ _ _ _ _ HD.out.blk ha ha1 hs0 (by omega)).mono ?_
  rintro e w1 ⟨rfl, hm1, hk0⟩
  have H1 := hide (HD.out.ints hm1 s.created s.opened (s.steps + 1) (dec s.armed) s.off s.quota hk0)
  have HM1 := hide hm1
  have hcf1 := hide (hm1.blk hcf hnf)
  have hcn1 := hide (hm1.blk hcn hnn)
  clear hk0 hm1 hcf hcn
  obtain ⟨As, cc, rfl⟩ := H1.out.row.form
  have hk1 : Blk w1 d #[.map (some bn), .map (some bs), .slice As s.ns cc, .map (some bc), vl, .int .i64 s.created, .int .i64 s.opened, .int .i64 (s.steps + 1), (.int .i64 (dec s.armed)), .bool s.off, .int .i64 s.quota] 56 := H1.out.blk
  have hc1 := hk1.cell
  go_wp2_with fail
  refine (createClo w1 bn s.N s.D name f cf cn (by omega) hl H1.out.names hcf1.out hcn1.out).mono ?_
  rintro e w2 ⟨rfl, hN2, hm2⟩
  have H2 := hide (H1.out.nam hm2 _ hN2 (there_put H1.out.names.isMap trivial HD.out.vD hφ) (entries_put H1.out.names.isMap HD.out.eD))
  have HM2 := hide hm2
  have hk2 := hide (hm2.blk hk1 (fun e => hne.1 e.symm))
  have hcf2 := hide (hm2.blk hcf1.out (fun e => by have := HD.out.rn; rw [← e, hrf] at this; cases this))
  have hcn2 := hide (hm2.blk hcn1.out (fun e => by have := HD.out.rn; rw [← e, hrn] at this; cases this))
  clear hc1 hN2 hm2 hcf1 hcn1 hk1
  have hc2 := hk2.out.cell
  have hrow : Hid (Rw w2 1 (.slice As s.ns cc) s.ns cs Gs) := H2.out.row
  go_wp2_with (at_builtin; refine wpList_append_rw rfl _ _ 53 53 rfl 94 i0 .nilFunc 1 8 Tryz.underlying53 hi hz0 hz1 hz2 rfl rfl (hrow.out.keep (S := fun _ => False) ((Mvs.refl _ _).alloc _) (fun _ _ c => c)) _ 1 [fnV cf cn] rfl (src_one Tryz.underlying53 (fnV cf cn) rfl) (by simp only [maxLen]; omega) (by omega) ?_)
  intro v3 w3 G3 hr3 hm3 hg3
  obtain ⟨A3, c3, rfl⟩ := hr3.form
  have hm23 : Mvs (fun k => some k = Gs) w2 w3 := (((Mvs.refl (fun k => some k = Gs) w2).alloc _).trans hm3)
  have hG3 : G3 = Gs ∨ ∃ g, G3 = some g ∧ w2.heap.size ≤ g := hg3.imp id fun e => ⟨_, e, by simp⟩
  have hk3 := hide (hm23.blk hk2.out (fun e => by have := HD.out.rsteps d e.symm; rw [HD.out.rd] at this; cases this))
  have hc3 := hk3.out.cell
  have hf3 := hk3.out.frozen
  have HR3 := hide hr3
  have HM3 := hide hm23
  have HG3 := hide hG3
  have hlt3 := hide hr3.lt
  clear hr3 hm3 hg3 hm23 hG3 hk2 hc2 hrow hi hz0 hz1 hz2
  go_wp2
  go_ret
  have hkk := (hk3.out.set 2 (.slice A3 (s.ns + 1) c3)).set 6 (.int .i64 (s.opened + 1))
  have hmm : Mvs (fun k => k = d) w3 ((w3.setCell ⟨d, 2, none⟩ (.slice A3 (s.ns + 1) c3)).setCell ⟨d, 6, none⟩ (.int .i64 (s.opened + 1))) := ((Mvs.refl (fun k => k = d) w3).setCell ⟨d, 2, none⟩ _ (fun _ => rfl)).setCell ⟨d, 6, none⟩ _ (fun _ => rfl)
  have hmA : Mvs (fun k => some k = Gs ∨ k = d) w2 ((w3.setCell ⟨d, 2, none⟩ (.slice A3 (s.ns + 1) c3)).setCell ⟨d, 6, none⟩ (.int .i64 (s.opened + 1))) := (HM3.out.mono fun _ _ e => .inl e).trans (hmm.mono fun _ _ e => .inr e)
  have hGd : ∀ g, G3 = some g → ¬ g = d := fun g hg e => by
    subst e
    rcases HG3.out with e | ⟨g', e, hle⟩
    · have := HD.out.rsteps g (e ▸ hg)
      rw [HD.out.rd] at this
      cases this
    · rw [e] at hg
      cases hg
      have := H2.out.lt H2.out.rd
      omega
  have hnc : ∀ k, ρ k = some .cap → ¬ (some k = Gs ∨ k = d) := fun k hk e => by
    rcases e with e | e
    · rw [HD.out.rsteps k e.symm] at hk
      cases hk
    · rw [e, HD.out.rd] at hk
      cases hk
  have hcfA := hmA.blk hcf2.out (hnc cf hrf)
  have hcnA := hmA.blk hcn2.out (hnc cn hrn)
  obtain ⟨hD, hkeep⟩ := H2.out.grow hmA (HR3.out.keep hmm hGd) HG3.out (s.opened + 1) (nl' := s.nl ++ [NA.mk name f]) (fun ρ' hk => NsR.snoc (x := .mk name f) ⟨cf, cn, rfl, hcfA, hk _ _ hrf, hcnA, hk _ _ hrn⟩ _ _ (NsR.keep hmA hnc (fun k h => hk k _ h) _ _ H2.out.nsr)) hkk
  refine ⟨rfl, _, ⟨_, _, _, _, _, _, _, _, hD⟩, ⟨?_, fun k r hr hlt => ?_⟩, hkeep⟩
  · refine (((HM1.out.mono (S' := fun k => ∃ r, ρ k = some r) fun i _ e => by subst e; exact ⟨_, HD.out.rd⟩).trans (HM2.out.mono fun i _ e => by subst e; exact ⟨_, HD.out.rn⟩)).trans (hmA.mono fun i _ e => ?_))
    rcases e with e | rfl
    · exact ⟨_, HD.out.rsteps i e.symm⟩
    · exact ⟨_, HD.out.rd⟩
  · unfold putRole at hr
    split at hr
    · rename_i e
      rcases HG3.out with e1 | ⟨g, e1, hle⟩
      · exact ⟨_, HD.out.rsteps k (e1 ▸ e.symm)⟩
      · rw [e1] at e
        cases e
        have := HM1.out.size
        have := HM2.out.size
        omega
    · exact ⟨r, hr⟩
def St.madeG (s : St) (name : List UInt8) (f : Nat) : St := { s.made name f with armed := dec s.armed }
set_option maxRecDepth 8000 in
set_option maxHeartbeats 2000000 in
theorem create_okB (w0 w : World) (d : Nat) (ρ : Nat → Option Role) (s : St) (a : Nat → Addr) (hE : Errs w0 a) (h : DK w0 w d ρ s) (hoff : s.off = false) (ha : s.armed ≠ 0) (ha1 : s.armed ≤ 9223372036854775807) (hs0 : 0 ≤ s.steps) (hs1 : s.steps ≤ 1000000) (ho0 : 0 ≤ s.opened) (ho1 : s.opened ≤ 1000000) (hc0 : 0 ≤ s.created) (hc1 : s.created ≤ 1000000) (hN : s.N ≤ 100000) (hsz : Maps.size s.D ≤ 60) (hns : s.ns ≤ 1000000)
    (name : List UInt8) (hr : rightB name = true) (hf : s.D.atKey (.string name) .nil = .nil) :
    Calls Tryz.prog 36 #[pv d, .string ⟨name.toArray⟩] w fun e w' => e = .returned .nilIface ∧ ∃ ρ' f, DK w0 w' d ρ' (s.madeG name f) ∧ Turn w w' ρ ρ' ∧ w.heap.size ≤ f := by
  have hn : name.length ≤ 24 := by
    unfold rightB at hr
    simp at hr
    exact hr.2.2
  have hb1 : Below w.heap.size w (w.alloc (.cells #[.string ⟨name.toArray⟩] 9)) := (Below.refl _ _).alloc (Nat.le_refl _) _
  have HF := hide (find_none w0 _ d ρ s a hE (h.then hb1) hoff name hr hf)
  have hE1 := hE.below (h.then hb1).below
  have HC := hide hb1
  have HK := hide (Blk.new w #[.string ⟨name.toArray⟩] 9)
  have HH := hide (h.then hb1)
  have hg : Hid (∀ m, (World.drewN (w.alloc (.cells #[.string ⟨name.toArray⟩] 9)) m).cell? ⟨0, 0, none⟩ = some (errV a 4)) := fun m => hE1.cell 4 (by decide)
  have hw00' := hide h.below.size
  have hoffn := hide (show ∀ k, w.heap.size ≤ k → ρ k = none by
    obtain ⟨bn, bs, bc, vs, vl, Gs, Gl, cs, h⟩ := h
    exact fun k hk => h.off hk)
  have hes := err_same
  have hsz1 : Hid ((w.alloc (.cells #[.string ⟨name.toArray⟩] 9)).heap.size = w.heap.size + 1) := by
    show _ = _
    simp
  clear h hE hE1 hb1 hf
  unfold pv errV at *
  go_enter Tryz.func36, Tryz.ntmps36
  go_wp2_with fail
  refine HF.out.mono ?_
  rintro e w1 ⟨rfl, m, rfl⟩
  have hg1 := hg.out m
  have hb2 := hide (HC.out.trans ((below_drewN _ m).mono HC.out.size))
  have HH2 := hide (HH.out.drewN m)
  have HK2 : Hid (Blk (World.drewN (w.alloc (.cells #[.string ⟨name.toArray⟩] 9)) m) w.heap.size #[.string ⟨name.toArray⟩] 9) := HK.out
  have hsz2 : Hid ((World.drewN (w.alloc (.cells #[.string ⟨name.toArray⟩] 9)) m).heap.size = w.heap.size + 1) := hsz1.out
  clear HF hg HC HH HK hsz1
  generalize World.drewN _ m = W at *
  obtain ⟨bn, bs, bc, vs, vl, Gs, Gl, cs, hD⟩ := HH2.out
  have hc := hD.blk.cell
  have hlen := hD.names.len Tryz.underlying51
  have hle : ((Maps.size s.D : Nat) : Int) ≤ 60 := by omega
  have HD := hide hD
  clear hD HH2
  go_wp2_with fail
  obtain ⟨W2, hW2⟩ : ∃ W2, W2 = (W.alloc (.cells #[.int .i64 s.created, .slice none 0 0, .slice none 0 0] 100)).alloc (.cells #[.pointer (some ⟨W.heap.size, 0, none⟩)] 72) := ⟨_, rfl⟩
  rw [← hW2]
  have hbW : Below W.heap.size W W2 := by rw [hW2]; exact ((Below.refl _ _).alloc (Nat.le_refl _) _).alloc (by simp) _
  have k0 : Blk W2 W.heap.size #[.int .i64 s.created, .slice none 0 0, .slice none 0 0] 100 := by rw [hW2]; exact (Blk.new W _ _).alloc _
  have k1 : Blk W2 (W.heap.size + 1) #[pv W.heap.size] 72 := by rw [hW2]; exact Blk.new1 W _ _ _
  have k2 : Blk W2 w.heap.size #[.string ⟨name.toArray⟩] 9 := HK2.out.below hbW (by rw [hsz2.out]; omega)
  have hkeepW := HD.out.keep (S := fun _ => False) (Mvs.of_below hbW) (fun _ _ _ c => c) (fun _ c => c.elim)
  have hfr := HD.out.fresh (Nat.le_refl _)
  have hWw : w.heap.size + 1 = W.heap.size := hsz2.out.symm
  have hw0 : w0.heap.size ≤ W.heap.size := HD.out.below.size
  obtain ⟨hadd0, hkp0⟩ := hkeepW.addFile (f := W.heap.size) (hoffn.out _ (by omega)) hw0 s.created k0 hfr
  have hw00 : w0.heap.size ≤ w.heap.size := hw00'.out
  obtain ⟨hadd, hkp⟩ := hadd0.caps [W.heap.size + 1, w.heap.size] (fun k hk => by
    have hW2s : W2.heap.size = W.heap.size + 2 := by rw [hW2]; simp
    simp only [List.mem_cons, List.not_mem_nil, or_false] at hk
    rcases hk with rfl | rfl
    · exact ⟨by unfold putRole; rw [if_neg (by simp)]; exact hoffn.out _ (by omega), by omega, by omega⟩
    · exact ⟨by unfold putRole; rw [if_neg (by simp; omega)]; exact hoffn.out _ (by omega), by omega, by omega⟩)
  have hmW : Mvs (fun k => ∃ r, ρ k = some r) w W2 := Mvs.of_below (hb2.out.trans (hbW.mono (by omega)))
  refine (changeNames_createG w0 W2 d _ _ name W.heap.size (W.heap.size + 1) w.heap.size ⟨_, _, _, _, _, _, _, _, hadd⟩ ha ha1 hs0 hs1 ho0 ho1 (by show s.N ≤ _; omega) hns (by omega) k1 k2 (putRoles_in (by simp)) (putRoles_in (by simp)) (by simp)).mono ?_
  rintro e w3 ⟨rfl, ρ3, hD3, ht3, hk3⟩
  have hmW := hide hmW
  have HT := hide ht3
  have hWle : Hid (w.heap.size ≤ W.heap.size) := by show _ ≤ _; omega
  obtain ⟨bn3, bs3, bc3, vs3, vl3, Gs3, Gl3, cs3, hD3⟩ := hD3
  have hk4 : Blk w3 d #[.map (some bn3), .map (some bs3), vs3, .map (some bc3), vl3, .int .i64 s.created, .int .i64 (s.opened + 1), .int .i64 (s.steps + 1), .int .i64 (dec s.armed), .bool s.off, .int .i64 s.quota] 56 := hD3.blk
  have hc4 := hk4.cell
  have hf4 := hk4.frozen
  have HK4 := hide hk4
  have HD3 := hide hD3
  clear hD3 hk4 hc hlen hle hg1 hkp hkp0 hadd hadd0 hkeepW k0 k1 k2 hbW hfr hk3 ht3 hWw hw0
  go_wp2
  go_ret
  have hm4 : Mvs (fun k => k = d) w3 (w3.setCell ⟨d, 5, none⟩ (.int .i64 (s.created + 1))) := (Mvs.refl (fun k => k = d) w3).setCell ⟨d, 5, none⟩ _ (fun _ => rfl)
  have hD4 := HD3.out.ints hm4 (s.created + 1) (s.opened + 1) (s.steps + 1) (dec s.armed) s.off s.quota (HK4.out.set 5 _)
  have hT := HT.out
  refine ⟨rfl, ρ3, W.heap.size, ⟨_, _, _, _, _, _, _, _, hD4⟩, ⟨?_, fun k r hr hlt => ?_⟩, hWle.out⟩
  · refine (hmW.out.trans' hT.1 (fun i hi ⟨r, hr⟩ => ?_)).trans (hm4.mono fun i _ e => ?_)
    · rcases putRoles_cases hr with ⟨e, _⟩ | hr
      · have := hWle.out
        simp only [List.mem_cons, List.not_mem_nil, or_false] at e
        omega
      · unfold putRole at hr
        split at hr
        · rename_i e
          cases e
          have := hWle.out
          omega
        · exact ⟨r, hr⟩
    · subst e
      exact ⟨_, HD.out.rd⟩
  · obtain ⟨r', hr'⟩ := hT.2 k r hr (Nat.lt_of_lt_of_le hlt hmW.out.size)
    rcases putRoles_cases hr' with ⟨e, _⟩ | hr'
    · have := hWle.out
      simp only [List.mem_cons, List.not_mem_nil, or_false] at e
      omega
    · unfold putRole at hr'
      split at hr'
      · rename_i e
        cases e
        have := hWle.out
        omega
      · exact ⟨r', hr'⟩
theorem create_okG (w0 w : World) (d : Nat) (ρ : Nat → Option Role) (s : St) (a : Nat → Addr) (hE : Errs w0 a) (h : DK w0 w d ρ s) (hoff : s.off = false) (ha : s.armed ≠ 0) (ha1 : s.armed ≤ 9223372036854775807) (hs0 : 0 ≤ s.steps) (hs1 : s.steps ≤ 1000000) (ho0 : 0 ≤ s.opened) (ho1 : s.opened ≤ 1000000) (hc0 : 0 ≤ s.created) (hc1 : s.created ≤ 1000000) (hN : s.N ≤ 60) (hns : s.ns ≤ 1000000)
    (name : List UInt8) (hr : rightB name = true) (hf : s.D.atKey (.string name) .nil = .nil) :
    Calls Tryz.prog 36 #[pv d, .string ⟨name.toArray⟩] w fun e w' => e = .returned .nilIface ∧ ∃ ρ' f, DK w0 w' d ρ' (s.madeG name f) ∧ Turn w w' ρ ρ' ∧ w.heap.size ≤ f := by
  have hsz : Maps.size s.D ≤ 60 := by
    obtain ⟨bn, bs, bc, vs, vl, Gs, Gl, cs, hD⟩ := h
    have := hD.names.size_le
    omega
  exact create_okB w0 w d ρ s a hE h hoff ha ha1 hs0 hs1 ho0 ho1 hc0 hc1 (by omega) hsz hns name hr hf
set_option maxRecDepth 20000 in
set_option maxHeartbeats 4000000 in
theorem changeFile_putG (w0 w : World) (d : Nat) (ρ : Nat → Option Role) (s : St) (h : DK w0 w d ρ s) (ha : s.armed ≠ 0) (ha1 : s.armed ≤ 9223372036854775807) (hs0 : 0 ≤ s.steps) (hs1 : s.steps ≤ 1000000) (ho0 : 0 ≤ s.opened) (ho1 : s.opened ≤ 1000000) (hN : s.N ≤ 100000)
    (b : Nat) (fa : FA) (hφ : s.φ b = some fa) (hn0 : 0 ≤ fa.num) (hn1 : fa.num ≤ 1000000) (hop : fa.opn.length ≤ 1000000) (x : Value) (news : List UInt8) (hx : BR w x news) (hxr : ∀ A n c, x = .slice (some A) n c → ρ A.block = none) (hl : fa.bytes.length + news.length ≤ 1000000000)
    (cf cb : Nat) (hcf : Blk w cf #[pv b] 72) (hcb : Blk w cb #[x] 46) (hrf : ρ cf = none) (hrb : ρ cb = none) :
    Calls Tryz.prog 81 #[pv d, pv b, appV cf cb] w fun e w' => e = .returned .nilIface ∧ ∃ ρ', DK w0 w' d ρ' { (s.withF b ⟨fa.num, fa.bytes ++ news, fa.opn ++ [.put fa.bytes.length news.length]⟩) with ch := s.ch.put (.int .i64 fa.num) (pd b), N := s.N + 1, opened := s.opened + 1, steps := s.steps + 1, armed := dec s.armed } ∧ Turn w w' ρ ρ' ∧ Keeps ρ ρ' := by
  obtain ⟨bn, bs, bc, vs, vl, Gs, Gl, cs, h⟩ := h
  obtain ⟨i0, hi, hz0, hz1, hz2⟩ := info_parts stepInfo
  have hne := h.ne
  have HD := hide h
  have hnf : cf ≠ d := fun e => by rw [e, h.rd] at hrf; cases hrf
  have hnb : cb ≠ d := fun e => by rw [e, h.rd] at hrb; cases hrb
  clear h
  unfold appV pv
  go_enter Tryz.func81, Tryz.ntmps81
  go_wp2_with fail
  refine (takeStep_ok _ d _ _ _ _ _ _ _ _ _ _ _ HD.out.blk ha ha1 hs0 (by omega)).mono ?_
  rintro e w1 ⟨rfl, hm1, hk0⟩
  have H1 := hide (HD.out.ints hm1 s.created s.opened (s.steps + 1) (dec s.armed) s.off s.quota hk0)
  have HM1 := hide hm1
  have hx1 := hide (AR.keep hx hm1 (fun A n c e e' => by have := hxr A n c e; rw [e', HD.out.rd] at this; cases this))
  have hcf1 := hide (hm1.blk hcf hnf)
  have hcb1 := hide (hm1.blk hcb hnb)
  clear hk0 hm1 hcf hcb hx
  obtain ⟨vb, vo, Gb, Go, fs, hF⟩ := H1.out.files b fa hφ
  obtain ⟨Ao, co, rfl⟩ := hF.orow.form
  have HF := hide hF
  have hcF := hF.blk.cell
  have hfF := hF.blk.frozen
  clear hF
  have HDd := hide (H1.out.keep (S := fun _ => False) (Mvs.refl _ w1).drew (fun _ _ _ c => c) (fun _ c => c.elim))
  have HFd := hide (HF.out.at (S := fun _ => False) (Mvs.refl _ w1).drew (fun _ _ _ c => c))
  have HC := hide (appendClo w1.drew ρ b fa vb _ Gb Go fs HFd.out x news (hx1.out.below (below_drewN w1 1)) hl cf cb hcf1.out hcb1.out)
  go_wp2_with fail
  unfold pv at HC
  go_region_law (first
    | (refine step_append_rw rfl (.tmp 17) (.tmp 20) 98 98 rfl 104 i0 (.agg #[.bool false, .int .i64 0, .nilFunc]) 3 24 Tryz.underlying98 hi hz0 hz1 hz2 rfl (by simp [Act.eval]) HRO.out _ 1 [.bool x0, .int .i64 m0, .func fn0 fi0 ca0] (by simp [Act.eval]) HSR.out (by simp only [maxLen]; omega) (by omega) ?_
       intro v4 w4 G4 hr4 hm4 hg4
       obtain ⟨A4, c4, rfl⟩ := hr4.form
       have hk4 := hide (hm4.blk ((HB3.out).alloc (.cells #[.bool x0, .int .i64 m0, .func fn0 fi0 ca0] 104)) Hbo.out)
       have hcF4 := hk4.out.cell
       have hfF4 := hk4.out.frozen
       have HR4 := hide hr4
       have HM4 := hide hm4
       have HG4 := hide hg4
       clear hr4 hm4 hg4)
    | (go_simp
       go_at_call 82
       refine HC.out.mono ?_
       rintro e w3 ⟨c0, c1, c2, rfl, hS⟩
       obtain ⟨x0, m0, fn0, fi0, ca0, rfl, rfl, rfl, ⟨vb3, hB3⟩, hbo, hRO, hSR⟩ := HFd.out.facts hS
       have HB3 := hide hB3
       have hcF3 := hB3.cell
       have hfF3 := hB3.frozen
       have hlt3 := hB3.lt
       have HRO := hide hRO
       have HSR := hide hSR
       have Hbo := hide hbo
       have HS := hide hS
       clear hS hB3 hbo hRO hSR))
  all_goals (
    have hD1d := HDd.out
    obtain ⟨ρ5, hD5, hT5, hK5⟩ := hD1d.stepped HFd.out HS.out ((((Mvs.refl (fun k => some k = Go) w3).alloc _)).trans HM4.out) HR4.out (HG4.out.imp id fun e => ⟨_, e, by simp⟩)
    have HT5 := hide hT5
    have HK5 := hide hK5
    clear hD1d hT5 hK5 HC HB3 hcF3 hfF3 hlt3 HRO HSR Hbo HS hk4 hcF4 hfF4 HR4 HM4 HG4 hcF hfF
    generalize w4.setCell ⟨b, 2, none⟩ _ = w5 at *
    have hk5 : Blk w5 d #[.map (some bn), .map (some bs), vs, .map (some bc), vl, .int .i64 s.created, .int .i64 s.opened, .int .i64 (s.steps + 1), (.int .i64 (dec s.armed)), .bool s.off, .int .i64 s.quota] 56 := hD5.blk
    have hc5 := hk5.cell
    obtain ⟨vb5, vo5, Gb5, Go5, fs5, hF5⟩ := hD5.files b _ (show (if b = b then _ else _) = some _ from if_pos rfl)
    have hcf5 := hF5.blk.cell
    obtain ⟨w6, hrun6, hN6, hg6⟩ := (World.ownsMap.drew hD5.chg).update intKeyed Tryz.underlying52 (by show s.N < maxLen; simp only [maxLen]; omega) (keyInt fa.num hn0 (by omega)) (show ptrElem (pv b) = some (pd b, []) from rfl)
    have HD5 := hide hD5
    have HN6 := hide hN6
    have HG6 := hide hg6
    have hk6 := hide ((Mvs.of_grown hg6).blk (x := w5.drew) hk5 (fun e => hne.2.2.1 (Option.some.inj e).symm))
    have hc6 := hk6.out.cell
    have hf6 := hk6.out.frozen
    unfold pv at hrun6
    clear hD5 hN6 hg6 hk5 hF5 hi hz0 hz1 hz2
    go_wp2_with fail
    go_region
    go_wp2
    go_ret
    have hm6 : Mvs (fun k => k = bc) w5.drew w6 := (Mvs.of_grown HG6.out).mono fun _ _ e => Option.some.inj e
    have hD5d := HD5.out.keep (S := fun _ => False) (Mvs.refl _ w5).drew (fun _ _ _ c => c) (fun _ c => c.elim)
    have hD6 := hD5d.chn hm6 _ HN6.out
    have hm7 : Mvs (fun k => k = d) w6 (w6.setCell ⟨d, 6, none⟩ (.int .i64 (s.opened + 1))) := (Mvs.refl (fun k => k = d) w6).setCell ⟨d, 6, none⟩ _ (fun _ => rfl)
    have hD7 := hD6.ints hm7 s.created (s.opened + 1) (s.steps + 1) (dec s.armed) s.off s.quota (hk6.out.set 6 _)
    have t1 : Turn w w1.drew ρ ρ := ⟨(HM1.out.mono fun i _ e => by subst e; exact ⟨_, HD.out.rd⟩).drew, fun k r hr _ => ⟨r, hr⟩⟩
    have t2 : Turn w5 w6 ρ5 ρ5 := ⟨((Mvs.refl _ w5).drew).trans (hm6.mono fun i _ e => by subst e; exact ⟨_, HD5.out.rc⟩), fun k r hr _ => ⟨r, hr⟩⟩
    have t3 : Turn w6 (w6.setCell ⟨d, 6, none⟩ (.int .i64 (s.opened + 1))) ρ5 ρ5 := ⟨hm7.mono fun i _ e => by subst e; exact ⟨_, HD5.out.rd⟩, fun k r hr _ => ⟨r, hr⟩⟩
    exact ⟨rfl, ρ5, ⟨_, _, _, _, _, _, _, _, hD7⟩, t1.trans (HT5.out.trans (t2.trans t3)), HK5.out⟩)
set_option maxRecDepth 20000 in
set_option maxHeartbeats 4000000 in
theorem changeFile_cutG (w0 w : World) (d : Nat) (ρ : Nat → Option Role) (s : St) (h : DK w0 w d ρ s) (ha : s.armed ≠ 0) (ha1 : s.armed ≤ 9223372036854775807) (hs0 : 0 ≤ s.steps) (hs1 : s.steps ≤ 1000000) (ho0 : 0 ≤ s.opened) (ho1 : s.opened ≤ 1000000) (hN : s.N ≤ 100000)
    (b : Nat) (fa : FA) (hφ : s.φ b = some fa) (hn0 : 0 ≤ fa.num) (hn1 : fa.num ≤ 1000000) (hop : fa.opn.length ≤ 1000000) (hl : fa.bytes.length ≤ 1000000) (n : Nat) (hn : n ≤ fa.bytes.length)
    (cf cb : Nat) (hcf : Blk w cf #[pv b] 72) (hcb : Blk w cb #[.int .i64 n] 3) (hrf : ρ cf = none) (hrb : ρ cb = none) :
    Calls Tryz.prog 81 #[pv d, pv b, cutV cf cb] w fun e w' => e = .returned .nilIface ∧ ∃ ρ', DK w0 w' d ρ' { (s.withF b ⟨fa.num, fa.bytes.take n, fa.opn ++ [.cut (fa.bytes.drop n)]⟩) with ch := s.ch.put (.int .i64 fa.num) (pd b), N := s.N + 1, opened := s.opened + 1, steps := s.steps + 1, armed := dec s.armed } ∧ Turn w w' ρ ρ' ∧ Keeps ρ ρ' := by
  obtain ⟨bn, bs, bc, vs, vl, Gs, Gl, cs, h⟩ := h
  obtain ⟨i0, hi, hz0, hz1, hz2⟩ := info_parts stepInfo
  have hne := h.ne
  have HD := hide h
  have hnf : cf ≠ d := fun e => by rw [e, h.rd] at hrf; cases hrf
  have hnb : cb ≠ d := fun e => by rw [e, h.rd] at hrb; cases hrb
  clear h
  unfold cutV pv
  go_enter Tryz.func81, Tryz.ntmps81
  go_wp2_with fail
  refine (takeStep_ok _ d _ _ _ _ _ _ _ _ _ _ _ HD.out.blk ha ha1 hs0 (by omega)).mono ?_
  rintro e w1 ⟨rfl, hm1, hk0⟩
  have H1 := hide (HD.out.ints hm1 s.created s.opened (s.steps + 1) (dec s.armed) s.off s.quota hk0)
  have HM1 := hide hm1
  have hcf1 := hide (hm1.blk hcf hnf)
  have hcb1 := hide (hm1.blk hcb hnb)
  clear hk0 hm1 hcf hcb
  obtain ⟨vb, vo, Gb, Go, fs, hF⟩ := H1.out.files b fa hφ
  obtain ⟨Ao, co, rfl⟩ := hF.orow.form
  have HF := hide hF
  have hcF := hF.blk.cell
  have hfF := hF.blk.frozen
  clear hF
  have HDd := hide (H1.out.keep (S := fun _ => False) (Mvs.refl _ w1).drew (fun _ _ _ c => c) (fun _ c => c.elim))
  have HFd := hide (HF.out.at (S := fun _ => False) (Mvs.refl _ w1).drew (fun _ _ _ c => c))
  have HC := hide (cutClo w1.drew ρ b fa vb _ Gb Go fs HFd.out hl n hn cf cb hcf1.out hcb1.out)
  go_wp2_with fail
  unfold pv at HC
  go_region_law (first
    | (refine step_append_rw rfl (.tmp 17) (.tmp 20) 98 98 rfl 104 i0 (.agg #[.bool false, .int .i64 0, .nilFunc]) 3 24 Tryz.underlying98 hi hz0 hz1 hz2 rfl (by simp [Act.eval]) HRO.out _ 1 [.bool x0, .int .i64 m0, .func fn0 fi0 ca0] (by simp [Act.eval]) HSR.out (by simp only [maxLen]; omega) (by omega) ?_
       intro v4 w4 G4 hr4 hm4 hg4
       obtain ⟨A4, c4, rfl⟩ := hr4.form
       have hk4 := hide (hm4.blk ((HB3.out).alloc (.cells #[.bool x0, .int .i64 m0, .func fn0 fi0 ca0] 104)) Hbo.out)
       have hcF4 := hk4.out.cell
       have hfF4 := hk4.out.frozen
       have HR4 := hide hr4
       have HM4 := hide hm4
       have HG4 := hide hg4
       clear hr4 hm4 hg4)
    | (go_simp
       go_at_call 91
       refine HC.out.mono ?_
       rintro e w3 ⟨c0, c1, c2, rfl, hS⟩
       obtain ⟨x0, m0, fn0, fi0, ca0, rfl, rfl, rfl, ⟨vb3, hB3⟩, hbo, hRO, hSR⟩ := HFd.out.facts hS
       have HB3 := hide hB3
       have hcF3 := hB3.cell
       have hfF3 := hB3.frozen
       have hlt3 := hB3.lt
       have HRO := hide hRO
       have HSR := hide hSR
       have Hbo := hide hbo
       have HS := hide hS
       clear hS hB3 hbo hRO hSR))
  all_goals (
    have hD1d := HDd.out
    obtain ⟨ρ5, hD5, hT5, hK5⟩ := hD1d.stepped HFd.out HS.out ((((Mvs.refl (fun k => some k = Go) w3).alloc _)).trans HM4.out) HR4.out (HG4.out.imp id fun e => ⟨_, e, by simp⟩)
    have HT5 := hide hT5
    have HK5 := hide hK5
    clear hD1d hT5 hK5 HC HB3 hcF3 hfF3 hlt3 HRO HSR Hbo HS hk4 hcF4 hfF4 HR4 HM4 HG4 hcF hfF
    generalize w4.setCell ⟨b, 2, none⟩ _ = w5 at *
    have hk5 : Blk w5 d #[.map (some bn), .map (some bs), vs, .map (some bc), vl, .int .i64 s.created, .int .i64 s.opened, .int .i64 (s.steps + 1), (.int .i64 (dec s.armed)), .bool s.off, .int .i64 s.quota] 56 := hD5.blk
    have hc5 := hk5.cell
    obtain ⟨vb5, vo5, Gb5, Go5, fs5, hF5⟩ := hD5.files b _ (show (if b = b then _ else _) = some _ from if_pos rfl)
    have hcf5 := hF5.blk.cell
    obtain ⟨w6, hrun6, hN6, hg6⟩ := (World.ownsMap.drew hD5.chg).update intKeyed Tryz.underlying52 (by show s.N < maxLen; simp only [maxLen]; omega) (keyInt fa.num hn0 (by omega)) (show ptrElem (pv b) = some (pd b, []) from rfl)
    have HD5 := hide hD5
    have HN6 := hide hN6
    have HG6 := hide hg6
    have hk6 := hide ((Mvs.of_grown hg6).blk (x := w5.drew) hk5 (fun e => hne.2.2.1 (Option.some.inj e).symm))
    have hc6 := hk6.out.cell
    have hf6 := hk6.out.frozen
    unfold pv at hrun6
    clear hD5 hN6 hg6 hk5 hF5 hi hz0 hz1 hz2
    go_wp2_with fail
    go_region
    go_wp2
    go_ret
    have hm6 : Mvs (fun k => k = bc) w5.drew w6 := (Mvs.of_grown HG6.out).mono fun _ _ e => Option.some.inj e
    have hD5d := HD5.out.keep (S := fun _ => False) (Mvs.refl _ w5).drew (fun _ _ _ c => c) (fun _ c => c.elim)
    have hD6 := hD5d.chn hm6 _ HN6.out
    have hm7 : Mvs (fun k => k = d) w6 (w6.setCell ⟨d, 6, none⟩ (.int .i64 (s.opened + 1))) := (Mvs.refl (fun k => k = d) w6).setCell ⟨d, 6, none⟩ _ (fun _ => rfl)
    have hD7 := hD6.ints hm7 s.created (s.opened + 1) (s.steps + 1) (dec s.armed) s.off s.quota (hk6.out.set 6 _)
    have t1 : Turn w w1.drew ρ ρ := ⟨(HM1.out.mono fun i _ e => by subst e; exact ⟨_, HD.out.rd⟩).drew, fun k r hr _ => ⟨r, hr⟩⟩
    have t2 : Turn w5 w6 ρ5 ρ5 := ⟨((Mvs.refl _ w5).drew).trans (hm6.mono fun i _ e => by subst e; exact ⟨_, HD5.out.rc⟩), fun k r hr _ => ⟨r, hr⟩⟩
    have t3 : Turn w6 (w6.setCell ⟨d, 6, none⟩ (.int .i64 (s.opened + 1))) ρ5 ρ5 := ⟨hm7.mono fun i _ e => by subst e; exact ⟨_, HD5.out.rd⟩, fun k r hr _ => ⟨r, hr⟩⟩
    exact ⟨rfl, ρ5, ⟨_, _, _, _, _, _, _, _, hD7⟩, t1.trans (HT5.out.trans (t2.trans t3)), HK5.out⟩)
def St.putG (s : St) (b : Nat) (fa : FA) (news : List UInt8) : St := { s.put b fa news with armed := dec s.armed }
def St.cutG (s : St) (b : Nat) (fa : FA) : St := { s.cut b fa with armed := dec s.armed }
def St.cutNG (s : St) (b : Nat) (fa : FA) (n : Nat) : St := { (s.withF b ⟨fa.num, fa.bytes.take n, fa.opn ++ [.cut (fa.bytes.drop n)]⟩) with ch := s.ch.put (.int .i64 fa.num) (pd b), N := s.N + 1, opened := s.opened + 1, steps := s.steps + 1, armed := dec s.armed }
def St.syncedG (s : St) : St := { s.synced with armed := dec s.armed }
set_option maxRecDepth 20000 in
set_option maxHeartbeats 4000000 in
theorem append_okG (w0 w : World) (d : Nat) (ρ : Nat → Option Role) (s : St) (h : DK w0 w d ρ s) (hs : s.SmallG) (name : List UInt8) (hr : rightB name = true) (b : Nat) (fa : FA) (hat : s.D.atKey (.string name) .nil = pd b) (hφ : s.φ b = some fa) (hn0 : 0 ≤ fa.num) (hn1 : fa.num ≤ 1000000) (hop : fa.opn.length ≤ 1000000)
    (x : Value) (news : List UInt8) (hx : BR w x news) (hxr : ∀ A n c, x = .slice (some A) n c → ρ A.block = none) (hl : fa.bytes.length + news.length ≤ 1000000000) (hroom : (news.length : Int) ≤ s.quota - usedOf s) :
    Calls Tryz.prog 49 #[pv d, .string ⟨name.toArray⟩, x] w fun e w' => e = .returned .nilIface ∧ ∃ ρ', DK w0 w' d ρ' (s.putG b fa news) ∧ Turn w w' ρ ρ' ∧ Keeps ρ ρ' := by
  obtain ⟨A, c, rfl, hlc, hcm, _⟩ := hx.form
  have hb1 : Below w.heap.size w (w.alloc (.cells #[.slice A news.length c] 46)) := (Below.refl _ _).alloc (Nat.le_refl _) _
  have hb2 : Below w.heap.size w ((w.alloc (.cells #[.slice A news.length c] 46)).alloc (.cells #[pv b] 72)) := hb1.alloc hb1.size _
  have HF := hide (find_there w0 _ d ρ s (h.then hb1) hs.off name hr b hat)
  have HR := hide (hasRoom_any w0 _ d ρ s (h.then hb2) (by have := hs.u; omega) hs.q0 (by have := hs.q1; omega) news.length)
  rw [decide_eq_true hroom] at HR
  have hk1 := Blk.new w #[.slice A news.length c] 46
  have hk2 := hide (hk1.alloc (.cells #[pv b] 72))
  have hk3 := hide (Blk.new1 w (.cells #[.slice A news.length c] 46) #[pv b] 72)
  have HB := hide hb2
  have HH := hide h
  have HX := hide hx
  have hnr : Hid (∀ k, w.heap.size ≤ k → ρ k = none) := by
    obtain ⟨bn, bs, bc, vs, vl, Gs, Gl, cs, h⟩ := h
    exact fun k hk => h.off hk
  clear h hx hb1 hb2 hk1 hroom hlc hcm
  unfold pv at HF HR ⊢
  go_enter Tryz.func49, Tryz.ntmps49
  go_wp2_with (go_at_call 63; refine HF.out.mono ?_; rintro e w' ⟨rfl, rfl⟩)
  refine HR.out.mono ?_
  rintro e w3 ⟨rfl, hb3⟩
  have hsz2 : ((w.alloc (.cells #[.slice A news.length c] 46)).alloc (.cells #[pv b] 72)).heap.size = w.heap.size + 1 + 1 := by simp
  have hb3' : Below w.heap.size w w3 := HB.out.trans (hb3.mono HB.out.size)
  have q2 := hk2.out.below hb3 hk2.out.lt
  have q3 := hk3.out.below hb3 hk3.out.lt
  have hcf := hide q3
  have hcb := hide q2
  have hc1 := q2.cell
  have hc2 := q3.cell
  have HH3 := hide (HH.out.then hb3')
  have HX3 := hide (HX.out.below hb3')
  have HB3 := hide hb3'
  unfold pv at hc2
  clear hb3 hb3' q2 q3 hk2 hk3 HF HR HH HX HB hsz2
  go_wp2_with fail
  refine (changeFile_putG w0 w3 d ρ s HH3.out hs.armed hs.armed1 hs.s0 hs.s1 hs.o0 hs.o1 hs.n b fa hφ hn0 hn1 hop _ news HX3.out hxr hl (w.heap.size + 1) w.heap.size hcf.out hcb.out (hnr.out _ (by omega)) (hnr.out _ (Nat.le_refl _))).mono ?_
  rintro e w4 ⟨rfl, ρ4, hD4, hT4, hK4⟩
  have HD4 := hide hD4
  have HT4 := hide hT4
  have HK4 := hide hK4
  clear hD4 hT4 hK4
  go_wp2
  go_ret
  exact ⟨rfl, ρ4, HD4.out, Turn.trans ⟨Mvs.of_below HB3.out, fun k r hr _ => ⟨r, hr⟩⟩ HT4.out, HK4.out⟩
set_option maxRecDepth 20000 in
set_option maxHeartbeats 4000000 in
theorem truncate_okG (w0 w : World) (d : Nat) (ρ : Nat → Option Role) (s : St) (h : DK w0 w d ρ s) (hs : s.SmallG) (name : List UInt8) (hr : rightB name = true) (b : Nat) (fa : FA) (hat : s.D.atKey (.string name) .nil = pd b) (hφ : s.φ b = some fa) (hn0 : 0 ≤ fa.num) (hn1 : fa.num ≤ 1000000) (hop : fa.opn.length ≤ 1000000) (hl : fa.bytes.length ≤ 1000000) (n : Nat) (hn : n ≤ fa.bytes.length) :
    Calls Tryz.prog 52 #[pv d, .string ⟨name.toArray⟩, .int .i64 n] w fun e w' => e = .returned .nilIface ∧ ∃ ρ', DK w0 w' d ρ' (s.cutNG b fa n) ∧ Turn w w' ρ ρ' ∧ Keeps ρ ρ' := by
  have hb1 : Below w.heap.size w (w.alloc (.cells #[.int .i64 n] 3)) := (Below.refl _ _).alloc (Nat.le_refl _) _
  have hb2 : Below w.heap.size w ((w.alloc (.cells #[.int .i64 n] 3)).alloc (.cells #[pv b] 72)) := hb1.alloc hb1.size _
  have HF := hide (find_there w0 _ d ρ s (h.then hb1) hs.off name hr b hat)
  have hk1 := Blk.new w #[.int .i64 n] 3
  have hk2 := hide (hk1.alloc (.cells #[pv b] 72))
  have hk3 := hide (Blk.new1 w (.cells #[.int .i64 n] 3) #[pv b] 72)
  have HB := hide hb2
  have HH := hide (h.then hb2)
  have hnr : Hid (∀ k, w.heap.size ≤ k → ρ k = none) := by
    obtain ⟨bn, bs, bc, vs, vl, Gs, Gl, cs, h⟩ := h
    exact fun k hk => h.off hk
  have HS : Hid (Calls Tryz.prog 90 #[pv b, .int .i64 n] ((w.alloc (.cells #[.int .i64 n] 3)).alloc (.cells #[pv b] 72)) fun e w' => e = .returned (.bool true) ∧ w' = (w.alloc (.cells #[.int .i64 n] 3)).alloc (.cells #[pv b] 72)) := by
    obtain ⟨bn, bs, bc, vs, vl, Gs, Gl, cs, hD⟩ := HH.out
    obtain ⟨vb, vo, Gb, Go, fs, hF⟩ := hD.files b fa hφ
    exact has_any _ ρ b fa vb vo Gb Go fs hF n hn
  clear h hb1 hb2 hk1
  unfold pv at HF HS ⊢
  go_enter Tryz.func52, Tryz.ntmps52
  go_wp2_with (first | (go_at_call 63; refine HF.out.mono ?_; rintro e w' ⟨rfl, rfl⟩) | (go_at_call 90; refine HS.out.mono ?_; rintro e w' ⟨rfl, rfl⟩))
  refine (changeFile_cutG w0 _ d ρ s HH.out hs.armed hs.armed1 hs.s0 hs.s1 hs.o0 hs.o1 hs.n b fa hφ hn0 hn1 hop hl n hn (w.heap.size + 1) w.heap.size hk3.out hk2.out (hnr.out _ (by omega)) (hnr.out _ (Nat.le_refl _))).mono ?_
  rintro e w4 ⟨rfl, ρ4, hD4, hT4, hK4⟩
  have HD4 := hide hD4
  have HT4 := hide hT4
  have HK4 := hide hK4
  clear hD4 hT4 hK4
  go_wp2
  go_ret
  exact ⟨rfl, ρ4, HD4.out, Turn.trans ⟨Mvs.of_below HB.out, fun k r hr _ => ⟨r, hr⟩⟩ HT4.out, HK4.out⟩
theorem truncate0_okG (w0 w : World) (d : Nat) (ρ : Nat → Option Role) (s : St) (h : DK w0 w d ρ s) (hs : s.SmallG) (name : List UInt8) (hr : rightB name = true) (b : Nat) (fa : FA) (hat : s.D.atKey (.string name) .nil = pd b) (hφ : s.φ b = some fa) (hn0 : 0 ≤ fa.num) (hn1 : fa.num ≤ 1000000) (hop : fa.opn.length ≤ 1000000) (hl : fa.bytes.length ≤ 1000000) :
    Calls Tryz.prog 52 #[pv d, .string ⟨name.toArray⟩, .int .i64 0] w fun e w' => e = .returned .nilIface ∧ ∃ ρ', DK w0 w' d ρ' (s.cutG b fa) ∧ Turn w w' ρ ρ' ∧ Keeps ρ ρ' :=
  truncate_okG w0 w d ρ s h hs name hr b fa hat hφ hn0 hn1 hop hl 0 (Nat.zero_le _)
set_option maxRecDepth 20000 in
set_option maxHeartbeats 2000000 in
/-- SyncDir, where no file has open steps. -/
theorem syncDir_okG (w0 w : World) (d : Nat) (ρ : Nat → Option Role) (s : St) (h : DK w0 w d ρ s) (hs : s.SmallG) (ho : (s.ns : Int) ≤ s.opened) (hch : s.ch = .map []) :
    Calls Tryz.prog 21 #[pv d] w fun e w' => e = .returned .nilIface ∧ ∃ ρ', DK w0 w' d ρ' s.syncedG ∧ Turn w w' ρ ρ' := by
  obtain ⟨bn, bs, bc, vs, vl, Gs, Gl, cs, h⟩ := h
  have hc := h.blk.cell
  rw [hs.off] at hc
  have HD := hide h
  clear h
  unfold pv
  go_enter Tryz.func21, Tryz.ntmps21
  go_wp2_with fail
  refine (takeStep_ok _ d _ _ _ _ _ _ _ _ _ _ _ HD.out.blk hs.armed hs.armed1 hs.s0 (by have := hs.s1; omega)).mono ?_
  rintro e w1 ⟨rfl, hm1, hk0⟩
  have H1 := hide (HD.out.ints hm1 s.created s.opened (s.steps + 1) (dec s.armed) s.off s.quota hk0)
  have HM1 := hide hm1
  obtain ⟨As, cc, rfl⟩ := H1.out.row.form
  clear hk0 hm1 hc
  go_wp2_with fail
  refine (makeSure_raw w1 d bn s.N s.D _ _ _ _ _ _ _ _ As s.ns cc s.opened H1.out.blk H1.out.names ho (by have := hs.o1; omega)).mono ?_
  rintro e w2 ⟨rfl, hm2, hk2, ho2, hlt2⟩
  obtain ⟨hD2, hK2⟩ := H1.out.resure hm2 w1.heap.size (Nat.le_refl _) hlt2 ho2 (s.opened - s.ns) hk2
  have HD2 := hide hD2
  have HM2 := hide hm2
  clear hm2 ho2 hlt2 hk2 hK2 hD2
  go_wp2_with fail
  refine (loseNameless_none w2 d bc s.N _ _ _ _ _ _ _ _ _ _ HD2.out.blk (by have := HD2.out.chg; rw [← hch]; exact this)).mono ?_
  rintro e w3 ⟨rfl, hb3⟩
  have HB3 := hide hb3
  clear hb3
  go_wp2
  go_ret
  have hD3 := HD2.out.keep (S := fun _ => False) (Mvs.of_below HB3.out) (fun _ _ _ c => c) (fun _ c => c.elim)
  refine ⟨rfl, _, ⟨_, _, _, _, _, _, _, _, hD3⟩, ⟨?_, fun k r hr hlt => ?_⟩⟩
  · exact ((HM1.out.trans HM2.out).mono fun i _ e => by subst e; exact ⟨_, HD.out.rd⟩).then HB3.out
  · rcases putRole_cases hr with e | e
    · cases e
      have := HM1.out.size
      omega
    · exact ⟨r, e⟩
end Go.Proofs.YthhnlkbjpahjeaaGreatDoor

end
