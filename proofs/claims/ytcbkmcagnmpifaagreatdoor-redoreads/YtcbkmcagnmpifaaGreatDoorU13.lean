/- A disk: the count of steps where the power is armed; what is asked and set. -/
/- A disk: Sync. -/
import Derived.Test.YtcbkmcagnmpifaaGreatDoorU12
section
namespace Go.Proofs.YtcbkmcagnmpifaaGreatDoor
open Go.RowKit Go.Maps
/-- Behind how many steps the power goes, one step on. -/
def dec (m : Int) : Int := if 0 < m then m - 1 else m
theorem dec_neg {m : Int} (h : m < 0) : dec m = m := if_neg (by omega)
set_option maxHeartbeats 1000000 in
theorem takeStep_ok (w : World) (d : Nat) (v0 v1 v2 v3 v4 v5 v6 v9 v10 : Value) (n m : Int) (hk : Blk w d #[v0, v1, v2, v3, v4, v5, v6, .int .i64 n, .int .i64 m, v9, v10] 77) (hm : m ≠ 0) (hm1 : m ≤ 1000000000) (hn : 0 ≤ n) (hn2 : n ≤ 1000000000) :
    Calls Tryz.prog 60 #[pv d] w fun e w' => e = .returned .nilIface ∧ Mvs (fun k => k = d) w w' ∧ Blk w' d #[v0, v1, v2, v3, v4, v5, v6, .int .i64 (n + 1), .int .i64 (dec m), v9, v10] 77 := by
  by_cases hp : 0 < m
  · have hc := hk.cell
    have hf := hk.frozen
    have g0 : (m == 0) = false := by simp; omega
    have g2 : decide (0 < m) = true := decide_eq_true hp
    have HK := hide hk
    clear hk
    unfold pv
    go_enter Tryz.func60, Tryz.ntmps60
    go_wp2
    go_ret
    refine ⟨rfl, ((Mvs.refl (fun k => k = d) w).setCell ⟨d, 8, none⟩ _ (fun _ => rfl)).setCell ⟨d, 7, none⟩ _ (fun _ => rfl), ?_⟩
    rw [show dec m = m - 1 from if_pos hp]
    exact (HK.out.set 8 _).set 7 _
  · refine (takeStep_free w d _ _ _ _ _ _ _ _ _ n m hk (by omega) hn hn2).mono fun e w' ⟨he, hw⟩ => ⟨he, ?_, ?_⟩
    · rw [hw]
      exact (Mvs.refl (fun k => k = d) w).setCell ⟨d, 7, none⟩ _ (fun _ => rfl)
    · rw [hw, show dec m = m from if_neg hp]
      exact hk.set 7 _
set_option maxHeartbeats 1000000 in
/-- The power goes. -/
theorem takeStep_gone (w : World) (d : Nat) (v0 v1 v2 v3 v4 v5 v6 v7 v9 v10 : Value) (hk : Blk w d #[v0, v1, v2, v3, v4, v5, v6, v7, .int .i64 0, v9, v10] 77) (a : Nat → Addr) (hE : w.cell? ⟨7, 0, none⟩ = some (errV a 7)) (_ : d ≠ 7) (_ : 7 ≠ d) :
    Calls Tryz.prog 60 #[pv d] w fun e w' => e = .returned (errV a 7) ∧ w' = w.setCell ⟨d, 9, none⟩ (.bool true) := by
  have hc := hk.cell
  have hf := hk.frozen
  clear hk
  unfold pv errV at *
  go_enter Tryz.func60, Tryz.ntmps60
  go_wp2
  go_ret
  exact ⟨rfl, rfl⟩
section
variable (w0 w : World) (d : Nat) (ρ : Nat → Option Role) (s : St)
set_option maxHeartbeats 1000000 in
/-- The power is off. -/
theorem find_off (a : Nat → Addr) (hE : Errs w0 a) (h : DK w0 w d ρ s) (hoff : s.off = true) (v : Value) :
    Calls Tryz.prog 83 #[pv d, v] w fun e w' => e = .returned (.tuple #[.pointer none, errV a 7]) ∧ ∃ m, w' = w.drewN m := by
  have hce : w.cell? ⟨7, 0, none⟩ = some (errV a 7) := (hE.below h.below).cell 7 (by decide)
  obtain ⟨bn, bs, bc, vs, vl, Gs, Gl, cs, h⟩ := h
  have hc := h.blk.cell
  rw [hoff] at hc
  clear h hE
  unfold pv errV at *
  go_enter Tryz.func83, Tryz.ntmps83
  go_wp2_with fail
  go_quiet (fail)
  go_wp2
  go_ret2
  exact ⟨rfl, _, rfl⟩
set_option maxHeartbeats 1000000 in
theorem off_any (h : DK w0 w d ρ s) : Calls Tryz.prog 64 #[pv d] w fun e w' => e = .returned (.bool s.off) ∧ w' = w := by
  obtain ⟨bn, bs, bc, vs, vl, Gs, Gl, cs, h⟩ := h
  have hc := h.blk.cell
  clear h
  unfold pv
  go_enter Tryz.func64, Tryz.ntmps64
  go_wp2
  go_ret
  exact ⟨rfl, rfl⟩
set_option maxHeartbeats 1000000 in
theorem quota_any (h : DK w0 w d ρ s) : Calls Tryz.prog 69 #[pv d] w fun e w' => e = .returned (.int .i64 s.quota) ∧ w' = w := by
  obtain ⟨bn, bs, bc, vs, vl, Gs, Gl, cs, h⟩ := h
  have hc := h.blk.cell
  clear h
  unfold pv
  go_enter Tryz.func69, Tryz.ntmps69
  go_wp2
  go_ret
  exact ⟨rfl, rfl⟩
set_option maxHeartbeats 1000000 in
theorem arm_any (h : DK w0 w d ρ s) (n : Int) : Calls Tryz.prog 23 #[pv d, .int .i64 n] w fun e w' => e = .returned (.tuple #[]) ∧ DK w0 w' d ρ { s with armed := n } ∧ Turn w w' ρ ρ := by
  obtain ⟨bn, bs, bc, vs, vl, Gs, Gl, cs, h⟩ := h
  have hc := h.blk.cell
  have hf := h.blk.frozen
  have HD := hide h
  clear h
  unfold pv
  go_enter Tryz.func23, Tryz.ntmps23
  go_wp2
  go_end0
  have hm : Mvs (fun k => k = d) w (w.setCell ⟨d, 8, none⟩ (.int .i64 n)) := (Mvs.refl (fun k => k = d) w).setCell ⟨d, 8, none⟩ _ (fun _ => rfl)
  exact ⟨rfl, ⟨_, _, _, _, _, _, _, _, HD.out.ints hm s.created s.opened s.steps n s.off s.quota (HD.out.blk.set 8 _)⟩, hm.mono fun k _ e => by subst e; exact ⟨_, HD.out.rd⟩, fun k r hr _ => ⟨r, hr⟩⟩
/-- Sync, behind the step: the file's row of open steps is let go. -/
def St.syncd (s : St) (b : Nat) (fa : FA) : St := { (s.withF b ⟨fa.num, fa.bytes, []⟩) with ch := s.ch.del (.int .i64 fa.num), N := s.N + 1, opened := s.opened - fa.opn.length, steps := s.steps + 1, armed := dec s.armed }
end
end Go.Proofs.YtcbkmcagnmpifaaGreatDoor

end
section
namespace Go.Proofs.YtcbkmcagnmpifaaGreatDoor
open Go.RowKit Go.Maps
/-- delete, as one step of a statement that draws its order. -/
theorem step_delete {P : Program} {ops : Array Oper} {o : Oper} {a : Act} {w : World} {K : Act → World → Prop} {Q : Exit → Act → World → Prop} {E : Prop} {R : Value → Option (DataW Unit × List MemPlace)}
    (hg : o.guard = none) (m x : Operand) (t k : TypeId) (hop : o.op = Op.call { callee := Callee.builtin Builtin.delete, args := #[m, x], argTypes := #[t, k] })
    (e : TypeId) (KK : Keyed P k) (ht : P.underlying t = some (.map k e)) {b n : Nat} {D : DataW Unit} (hm : a.eval m = .map (some b)) (hown : w.ownsMap P k R b n D) (key : Value) (kl : Lit) (hx : a.eval x = key) (hkey : keyOf P k key = some kl)
    (hK : ∀ w', w'.ownsMap P k R b n (D.del kl) → w.mapTurned w' b → K (a.put o.dst (.tuple #[])) w') : if Region.wanted o (yielded ops a.tmps) = true then Oper.wp P o a w K Q else E := by
  have hw : Region.wanted o (yielded ops a.tmps) = true := by simp [Region.wanted, hg]
  rw [if_pos hw]
  obtain ⟨w', hrun, r1, r2⟩ := hown.drop KK ht hkey o.type
  unfold Oper.wp
  simp [execOp, hop, resolve, invoke, builtin, hm, hx, hrun, Result.andThen]
  exact hK w' r1 r2
section
variable (w0 w : World) (d : Nat) (ρ : Nat → Option Role) (s : St)
set_option maxRecDepth 20000 in
set_option maxHeartbeats 4000000 in
theorem sync_ok (h : DK w0 w d ρ s) (hoff : s.off = false) (ha : s.armed ≠ 0) (ha1 : s.armed ≤ 1000000000) (hs0 : 0 ≤ s.steps) (hs1 : s.steps ≤ 1000000) (ho1 : s.opened ≤ 1000000)
    (name : List UInt8) (hr : rightB name = true) (b : Nat) (fa : FA) (hat : s.D.atKey (.string name) .nil = pd b) (hφ : s.φ b = some fa) (hn0 : 0 ≤ fa.num) (hn1 : fa.num ≤ 1000000) (hop : (fa.opn.length : Int) ≤ s.opened) :
    Calls Tryz.prog 72 #[pv d, .string ⟨name.toArray⟩] w fun e w' => e = .returned .nilIface ∧ DK w0 w' d ρ (s.syncd b fa) ∧ Turn w w' ρ ρ := by
  have HF := hide (find_there w0 w d ρ s h hoff name hr b hat)
  obtain ⟨bn, bs, bc, vs, vl, Gs, Gl, cs, h⟩ := h
  have HD := hide h
  have hne := h.ne
  clear h hat
  unfold pv at HF ⊢
  go_enter Tryz.func72, Tryz.ntmps72
  go_wp2_with (go_at_call 83; refine HF.out.mono ?_; rintro e w ⟨rfl, rfl⟩)
  refine (takeStep_ok _ d _ _ _ _ _ _ _ _ _ _ _ HD.out.blk ha ha1 hs0 (by omega)).mono ?_
  rintro e w1 ⟨rfl, hm1, hk1⟩
  have H1 := hide (HD.out.ints hm1 s.created s.opened (s.steps + 1) (dec s.armed) s.off s.quota hk1)
  have HM1 := hide hm1
  obtain ⟨vb, vo, Gb, Go, fs, hF⟩ := H1.out.files b fa hφ
  obtain ⟨Ao, co, rfl⟩ := hF.orow.form
  have HFs := hide hF
  have hcF := hF.blk.cell
  have hfF := hF.blk.frozen
  have hcd := hk1.cell
  have hfd := hk1.frozen
  have HK1 := hide hk1
  have hbd : b ≠ d := fun e => by have := hF.role; rw [e, HD.out.rd] at this; cases this
  have hdb : d ≠ b := fun e => hbd e.symm
  clear hm1 hk1 hF HF
  go_wp2_with fail
  go_region
  go_wp2_with fail
  have hm2 : Mvs (fun k => k = d) w1 (w1.setCell ⟨d, 6, none⟩ (.int .i64 (s.opened - fa.opn.length))) := (Mvs.refl (fun k => k = d) w1).setCell ⟨d, 6, none⟩ _ (fun _ => rfl)
  have hD2 := H1.out.ints hm2 s.created (s.opened - fa.opn.length) (s.steps + 1) (dec s.armed) s.off s.quota (HK1.out.set 6 _)
  have hm3 : Mvs (fun k => k = b) (w1.setCell ⟨d, 6, none⟩ (.int .i64 (s.opened - fa.opn.length))) ((w1.setCell ⟨d, 6, none⟩ (.int .i64 (s.opened - fa.opn.length))).setCell ⟨b, 2, none⟩ (.slice none 0 0)).drew := ((Mvs.refl (fun k => k = b) _).setCell ⟨b, 2, none⟩ _ (fun _ => rfl)).drew
  have kb3 : Blk ((w1.setCell ⟨d, 6, none⟩ (.int .i64 (s.opened - fa.opn.length))).setCell ⟨b, 2, none⟩ (.slice none 0 0)).drew b #[.int .i64 fa.num, vb, .slice none 0 0] 117 := (hm2.blk HFs.out.blk hbd).set 2 _
  have hgb : ∀ g, Gb = some g → g ≠ d ∧ g ≠ b := fun g hg => by
    have r1 := HFs.out.rb g hg
    exact ⟨(fun e => by rw [e, HD.out.rd] at r1; cases r1), (fun e => by rw [e, HFs.out.role] at r1; cases r1)⟩
  have hF3 : FileR ((w1.setCell ⟨d, 6, none⟩ (.int .i64 (s.opened - fa.opn.length))).setCell ⟨b, 2, none⟩ (.slice none 0 0)).drew ρ b ⟨fa.num, fa.bytes, []⟩ :=
    ⟨vb, _, Gb, none, [], HFs.out.role, kb3, (HFs.out.row.keep hm2 (fun g hg => (hgb g hg).1)).keep hm3 (fun g hg => (hgb g hg).2), HFs.out.rb, Rw.nil _ _, (fun _ h => by cases h), trivial⟩
  have hD3 := hD2.setFile (Gb := Gb) (Go := none) (fa := ⟨fa.num, fa.bytes, []⟩) (hm3.mono fun _ _ e => .inl e) HFs.out.role HFs.out.rb (fun _ h => by cases h) (fun _ _ hr => hr) (fun k r hr => ⟨(hD2.low k r hr).1, Nat.lt_of_lt_of_le (hD2.low k r hr).2 hm3.size⟩) hF3
  have hmT : Mvs (fun k => ∃ r, ρ k = some r) w ((w1.setCell ⟨d, 6, none⟩ (.int .i64 (s.opened - fa.opn.length))).setCell ⟨b, 2, none⟩ (.slice none 0 0)).drew := ((HM1.out.trans hm2).mono (fun k _ e => by subst e; exact ⟨_, HD.out.rd⟩)).trans (hm3.mono fun k _ e => by subst e; exact ⟨_, HFs.out.role⟩)
  generalize ((w1.setCell ⟨d, 6, none⟩ _).setCell ⟨b, 2, none⟩ _).drew = w3 at *
  have hk3 : Blk w3 d #[.map (some bn), .map (some bs), vs, .map (some bc), vl, .int .i64 s.created, .int .i64 (s.opened - fa.opn.length), .int .i64 (s.steps + 1), .int .i64 (dec s.armed), .bool s.off, .int .i64 s.quota] 77 := hD3.blk
  have hc3 := hk3.cell
  have hcb3 := kb3.cell
  have HD3 := hide (hD3.keep (S := fun _ => False) (Mvs.refl _ w3).drew (fun _ _ _ c => c) (fun _ c => c.elim))
  have HO3 := hide (show w3.drew.ownsMap Tryz.prog 3 ptrElem bc s.N s.ch from hD3.chg)
  have HT := hide hmT
  have HKI := hide (keyInt fa.num hn0 (by omega))
  clear hm2 hD2 hm3 kb3 hF3 hD3 hmT hk3 hcF hfF hcd hfd H1 HM1 HK1 HFs hgb
  go_region_law (refine step_delete rfl (.tmp 40) (.tmp 44) 73 3 rfl 88 intKeyed Tryz.underlying73 (by simp [Act.eval]) HO3.out (.int .i64 fa.num) (.int .i64 fa.num) (by simp [Act.eval]) HKI.out ?_
                 intro w4 hown4 hturn4
                 have HO4 := hide hown4
                 have HT4 := hide hturn4
                 clear hown4 hturn4)
  all_goals (
    go_wp2
    go_ret
    have hm4 := Mvs.of_turned HT4.out
    have hD4 := HD3.out.chn hm4 _ (HO4.out.mono (Nat.le_succ _))
    exact ⟨rfl, ⟨_, _, _, _, _, _, _, _, hD4⟩, (HT.out.trans (Mvs.refl _ w3).drew).trans (hm4.mono fun k _ e => by subst e; exact ⟨_, HD.out.rc⟩), fun k r hr _ => ⟨r, hr⟩⟩)
end
end Go.Proofs.YtcbkmcagnmpifaaGreatDoor

end
