/- A disk: changeFile, with the step of an Append. -/
/- A disk: changeFile, with the step of a Truncate to nothing. -/
import Derived.Test.YtcbkmcagnmpifaaGreatDoorU10
import Derived.Deep.RegionLaw
import Derived.Deep.RegionHeld3
section
namespace Go.Proofs.YtcbkmcagnmpifaaGreatDoor
open Go.RowKit Go.Maps
theorem step_append_rw {P : Program} {ops : Array Oper} {o : Oper} {a : Act} {w : World} {K : Act → World → Prop} {Q : Exit → Act → World → Prop} {E : Prop}
    (hg : o.guard = none) (s x : Operand) (t tx : TypeId) (hop : o.op = Op.call { callee := Callee.builtin Builtin.append, args := #[s, x], argTypes := #[t, tx] })
    (e : TypeId) (i : TypeInfo) (z : Value) (size bytes : Nat) (ht : P.underlying t = some (.slice e)) (hi : P.info? e = some i) (hz : i.zero = some z) (hsize : i.size = size) (hby : i.bytes = bytes) (hzs : z.cells.size = size)
    {v : Value} {n : Nat} {cs : List Value} {G : Option Nat} (hv : a.eval s = v) (h : Rw w size v n cs G) (xv : Value) (m : Nat) (news : List Value) (hx : a.eval x = xv) (hs : Src P size tx xv m news w) (h63 : n + m ≤ maxLen) (hbytes : (n + m) * bytes ≤ 140737488355328)
    (hK : ∀ v' w' G', Rw w' size v' (n + m) (cs ++ news) G' → Mvs (fun k => some k = G) w w' → (G' = G ∨ G' = some w.heap.size) → K (a.put o.dst v') w') :
    if Region.wanted o (yielded ops a.tmps) = true then Oper.wp P o a w K Q else E := by
  have hw : Region.wanted o (yielded ops a.tmps) = true := by simp [Region.wanted, hg]
  rw [if_pos hw]
  obtain ⟨v', w', G', hrun, r1, r2, r3⟩ := run_append_rw (P := P) t tx o.type e i z size bytes ht hi hz hsize hby hzs h xv m news hs h63 hbytes
  unfold Oper.wp
  simp [execOp, hop, resolve, invoke, builtin, hv, hx, hrun, Result.andThen]
  exact hK v' w' G' r1 r2 r3
theorem stepInfo : (Tryz.prog.info? 120).map (fun i => (i.zero, i.size, i.bytes)) = some (some (.agg #[.bool false, .int .i64 0, .nilFunc]), 3, 24) := by kernel_rfl
theorem src_step {w : World} {c0 c1 c2 : Value} (h : ∀ u ∈ [c0, c1, c2], u.oneCell' = true) {c : Nat} : Src Tryz.prog 3 115 (.slice (some ⟨w.heap.size, 0, none⟩) 1 c) 1 [c0, c1, c2] (w.alloc (.cells #[c0, c1, c2] 120)) := by
  refine Src.ofSlice _ Tryz.underlying115 ⟨w.heap.size, 0, none⟩ 1 c [c0, c1, c2] rfl (fun j x hx => ?_) h
  rw [Go.WideShapes.add_plain, Nat.zero_add, (Blk.new w _ _).cell, ← hx]
  rw [← List.getElem?_toArray]
theorem FileRs.at {w w' : World} {ρ : Nat → Option Role} {b : Nat} {fa : FA} {vb vo : Value} {Gb Go : Option Nat} {cs : List Value} {S : Nat → Prop} (h : FileRs w ρ b fa vb vo Gb Go cs) (hm : Mvs S w w') (hS : ∀ k r, ρ k = some r → ¬ S k) : FileRs w' ρ b fa vb vo Gb Go cs :=
  ⟨h.role, hm.blk h.blk (hS _ _ h.role), h.row.keep hm (fun g hg => hS _ _ (h.rb g hg)), h.rb, h.orow.keep hm (fun g hg => hS _ _ (h.ro g hg)), h.ro, StepsR.keep hm (fun _ hk => hS _ _ hk) (fun _ h => h) _ _ h.steps⟩
theorem FileRs.facts {w w3 : World} {ρ : Nat → Option Role} {b : Nat} {fa : FA} {vb vo : Value} {Gb Go : Option Nat} {fs : List Value} {bytes : List UInt8} {c0 c1 c2 : Value} {sa : SA} (hF : FileRs w ρ b fa vb vo Gb Go fs) (hS : Stepd w w3 b Gb fa.num vo bytes c0 c1 c2 sa) :
    ∃ x0 m0 fn0 fi0 ca0, c0 = .bool x0 ∧ c1 = .int .i64 m0 ∧ c2 = .func fn0 fi0 ca0 ∧ (∃ vb', Blk w3 b #[.int .i64 fa.num, vb', vo] 117) ∧ ¬ some b = Go ∧ Rw (w3.alloc (.cells #[.bool x0, .int .i64 m0, .func fn0 fi0 ca0] 120)) 3 vo fa.opn.length fs Go ∧
      Src Tryz.prog 3 115 (.slice (some ⟨w3.heap.size, 0, none⟩) 1 1) 1 [.bool x0, .int .i64 m0, .func fn0 fi0 ca0] (w3.alloc (.cells #[.bool x0, .int .i64 m0, .func fn0 fi0 ca0] 120)) := by
  obtain ⟨x0, m0, fn0, fi0, ca0, rfl, rfl, rfl⟩ := hS.shape
  obtain ⟨vb', Gb', K, e1, _⟩ := hS.ex
  have hbo : ¬ some b = Go := fun e => by have := hF.ro b e.symm; rw [hF.role] at this; cases this
  refine ⟨x0, m0, fn0, fi0, ca0, rfl, rfl, rfl, ⟨vb', e1⟩, hbo, ?_, src_step (by intro u hu; simp at hu; rcases hu with rfl | rfl | rfl <;> rfl)⟩
  refine (hF.orow.keep hS.mvs (fun g hg e => ?_)).keep (S := fun _ => False) ((Mvs.refl _ _).alloc _) (fun _ _ c => c)
  rcases e with e | e
  · have r1 := hF.rb g e.symm
    rw [hF.ro g hg] at r1
    cases r1
  · rw [e] at hg
    exact hbo hg.symm
theorem keyInt (n : Int) (h0 : 0 ≤ n) (h1 : n ≤ 1000000000) : keyOf Tryz.prog 3 (.int .i64 n) = some (.int .i64 n) := keyOf_int_mk Tryz.underlying3 (by simp [Lit.wf, IntKind.min, IntKind.max, IntKind.signed, IntKind.bits]; omega)
set_option maxRecDepth 20000 in
set_option maxHeartbeats 4000000 in
theorem changeFile_put (w0 w : World) (d : Nat) (ρ : Nat → Option Role) (s : St) (h : DK w0 w d ρ s) (ha : s.armed < 0) (hs0 : 0 ≤ s.steps) (hs1 : s.steps ≤ 1000000) (ho0 : 0 ≤ s.opened) (ho1 : s.opened ≤ 1000000) (hN : s.N ≤ 100000)
    (b : Nat) (fa : FA) (hφ : s.φ b = some fa) (hn0 : 0 ≤ fa.num) (hn1 : fa.num ≤ 1000000) (hop : fa.opn.length ≤ 1000000) (x : Value) (news : List UInt8) (hx : BR w x news) (hxr : ∀ A n c, x = .slice (some A) n c → ρ A.block = none) (hl : fa.bytes.length + news.length ≤ 1000000000)
    (cf cb : Nat) (hcf : Blk w cf #[pv b] 88) (hcb : Blk w cb #[x] 25) (hrf : ρ cf = none) (hrb : ρ cb = none) :
    Calls Tryz.prog 99 #[pv d, pv b, appV cf cb] w fun e w' => e = .returned .nilIface ∧ ∃ ρ', DK w0 w' d ρ' { (s.withF b ⟨fa.num, fa.bytes ++ news, fa.opn ++ [.put fa.bytes.length news.length]⟩) with ch := s.ch.put (.int .i64 fa.num) (pd b), N := s.N + 1, opened := s.opened + 1, steps := s.steps + 1 } ∧ Turn w w' ρ ρ' ∧ Keeps ρ ρ' := by
  obtain ⟨bn, bs, bc, vs, vl, Gs, Gl, cs, h⟩ := h
  obtain ⟨i0, hi, hz0, hz1, hz2⟩ := info_parts stepInfo
  have hne := h.ne
  have HD := hide h
  have hnf : cf ≠ d := fun e => by rw [e, h.rd] at hrf; cases hrf
  have hnb : cb ≠ d := fun e => by rw [e, h.rd] at hrb; cases hrb
  clear h
  unfold appV pv
  go_enter Tryz.func99, Tryz.ntmps99
  go_wp2_with fail
  refine (takeStep_free _ d _ _ _ _ _ _ _ _ _ _ _ HD.out.blk ha hs0 (by omega)).mono ?_
  rintro e w1 ⟨rfl, hw1⟩
  have hm1 : Mvs (fun k => k = d) w w1 := by rw [hw1]; exact (Mvs.refl _ _).setCell _ _ (fun _ => rfl)
  have H1 := hide (HD.out.ints hm1 s.created s.opened (s.steps + 1) s.armed s.off s.quota (by rw [hw1]; exact HD.out.blk.set 7 _))
  have HM1 := hide hm1
  have hx1 := hide (AR.keep hx hm1 (fun A n c e e' => by have := hxr A n c e; rw [e', HD.out.rd] at this; cases this))
  have hcf1 := hide (hm1.blk hcf hnf)
  have hcb1 := hide (hm1.blk hcb hnb)
  clear hw1 hm1 hcf hcb hx
  obtain ⟨vb, vo, Gb, Go, fs, hF⟩ := H1.out.files b fa hφ
  obtain ⟨Ao, co, rfl⟩ := hF.orow.form
  have HF := hide hF
  have hcF := hF.blk.cell
  have hfF := hF.blk.frozen
  clear hF
  have HDd := hide (H1.out.keep (S := fun _ => False) (Mvs.refl _ w1).drew (fun _ _ _ c => c) (fun _ c => c.elim))
  have HFd := hide (HF.out.at (S := fun _ => False) (Mvs.refl _ w1).drew (fun _ _ _ c => c))
  have HC := hide (appendClo w1.drew ρ b fa vb _ Gb Go fs HFd.out x news (hx1.out.below (below_drewN w1 1)) hl cf cb hcf1.out hcb1.out)
  go_wp2_with fail
  unfold pv at HC
  go_region_law (first
    | (refine step_append_rw rfl (.tmp 17) (.tmp 20) 115 115 rfl 120 i0 (.agg #[.bool false, .int .i64 0, .nilFunc]) 3 24 Tryz.underlying115 hi hz0 hz1 hz2 rfl (by simp [Act.eval]) HRO.out _ 1 [.bool x0, .int .i64 m0, .func fn0 fi0 ca0] (by simp [Act.eval]) HSR.out (by simp only [maxLen]; omega) (by omega) ?_
       intro v4 w4 G4 hr4 hm4 hg4
       obtain ⟨A4, c4, rfl⟩ := hr4.form
       have hk4 := hide (hm4.blk ((HB3.out).alloc (.cells #[.bool x0, .int .i64 m0, .func fn0 fi0 ca0] 120)) Hbo.out)
       have hcF4 := hk4.out.cell
       have hfF4 := hk4.out.frozen
       have HR4 := hide hr4
       have HM4 := hide hm4
       have HG4 := hide hg4
       clear hr4 hm4 hg4)
    | (go_simp
       go_at_call 100
       refine HC.out.mono ?_
       rintro e w3 ⟨c0, c1, c2, rfl, hS⟩
       obtain ⟨x0, m0, fn0, fi0, ca0, rfl, rfl, rfl, ⟨vb3, hB3⟩, hbo, hRO, hSR⟩ := HFd.out.facts hS
       have HB3 := hide hB3
       have hcF3 := hB3.cell
       have hfF3 := hB3.frozen
       have hlt3 := hB3.lt
       have HRO := hide hRO
       have HSR := hide hSR
       have Hbo := hide hbo
       have HS := hide hS
       clear hS hB3 hbo hRO hSR))
  all_goals (
    have hD1d := HDd.out
    obtain ⟨ρ5, hD5, hT5, hK5⟩ := hD1d.stepped HFd.out HS.out ((((Mvs.refl (fun k => some k = Go) w3).alloc _)).trans HM4.out) HR4.out (HG4.out.imp id fun e => ⟨_, e, by simp⟩)
    have HT5 := hide hT5
    have HK5 := hide hK5
    clear hD1d hT5 hK5 HC HB3 hcF3 hfF3 hlt3 HRO HSR Hbo HS hk4 hcF4 hfF4 HR4 HM4 HG4 hcF hfF
    generalize w4.setCell ⟨b, 2, none⟩ _ = w5 at *
    have hk5 : Blk w5 d #[.map (some bn), .map (some bs), vs, .map (some bc), vl, .int .i64 s.created, .int .i64 s.opened, .int .i64 (s.steps + 1), .int .i64 s.armed, .bool s.off, .int .i64 s.quota] 77 := hD5.blk
    have hc5 := hk5.cell
    obtain ⟨vb5, vo5, Gb5, Go5, fs5, hF5⟩ := hD5.files b _ (show (if b = b then _ else _) = some _ from if_pos rfl)
    have hcf5 := hF5.blk.cell
    obtain ⟨w6, hrun6, hN6, hg6⟩ := (World.ownsMap.drew hD5.chg).update intKeyed Tryz.underlying73 (by show s.N < maxLen; simp only [maxLen]; omega) (keyInt fa.num hn0 (by omega)) (show ptrElem (pv b) = some (pd b, []) from rfl)
    have HD5 := hide hD5
    have HN6 := hide hN6
    have HG6 := hide hg6
    have hk6 := hide ((Mvs.of_grown hg6).blk (x := w5.drew) hk5 (fun e => hne.2.2.1 (Option.some.inj e).symm))
    have hc6 := hk6.out.cell
    have hf6 := hk6.out.frozen
    unfold pv at hrun6
    clear hD5 hN6 hg6 hk5 hF5 hi hz0 hz1 hz2
    go_wp2_with fail
    go_region
    go_wp2
    go_ret
    have hm6 : Mvs (fun k => k = bc) w5.drew w6 := (Mvs.of_grown HG6.out).mono fun _ _ e => Option.some.inj e
    have hD5d := HD5.out.keep (S := fun _ => False) (Mvs.refl _ w5).drew (fun _ _ _ c => c) (fun _ c => c.elim)
    have hD6 := hD5d.chn hm6 _ HN6.out
    have hm7 : Mvs (fun k => k = d) w6 (w6.setCell ⟨d, 6, none⟩ (.int .i64 (s.opened + 1))) := (Mvs.refl (fun k => k = d) w6).setCell ⟨d, 6, none⟩ _ (fun _ => rfl)
    have hD7 := hD6.ints hm7 s.created (s.opened + 1) (s.steps + 1) s.armed s.off s.quota (hk6.out.set 6 _)
    have t1 : Turn w w1.drew ρ ρ := ⟨(HM1.out.mono fun i _ e => by subst e; exact ⟨_, HD.out.rd⟩).drew, fun k r hr _ => ⟨r, hr⟩⟩
    have t2 : Turn w5 w6 ρ5 ρ5 := ⟨((Mvs.refl _ w5).drew).trans (hm6.mono fun i _ e => by subst e; exact ⟨_, HD5.out.rc⟩), fun k r hr _ => ⟨r, hr⟩⟩
    have t3 : Turn w6 (w6.setCell ⟨d, 6, none⟩ (.int .i64 (s.opened + 1))) ρ5 ρ5 := ⟨hm7.mono fun i _ e => by subst e; exact ⟨_, HD5.out.rd⟩, fun k r hr _ => ⟨r, hr⟩⟩
    exact ⟨rfl, ρ5, ⟨_, _, _, _, _, _, _, _, hD7⟩, t1.trans (HT5.out.trans (t2.trans t3)), HK5.out⟩)
end Go.Proofs.YtcbkmcagnmpifaaGreatDoor

end
section
namespace Go.Proofs.YtcbkmcagnmpifaaGreatDoor
open Go.RowKit Go.Maps
set_option maxRecDepth 20000 in
set_option maxHeartbeats 4000000 in
theorem changeFile_cut (w0 w : World) (d : Nat) (ρ : Nat → Option Role) (s : St) (h : DK w0 w d ρ s) (ha : s.armed < 0) (hs0 : 0 ≤ s.steps) (hs1 : s.steps ≤ 1000000) (ho0 : 0 ≤ s.opened) (ho1 : s.opened ≤ 1000000) (hN : s.N ≤ 100000)
    (b : Nat) (fa : FA) (hφ : s.φ b = some fa) (hn0 : 0 ≤ fa.num) (hn1 : fa.num ≤ 1000000) (hop : fa.opn.length ≤ 1000000) (hl : fa.bytes.length ≤ 1000000)
    (cf cb : Nat) (hcf : Blk w cf #[pv b] 88) (hcb : Blk w cb #[.int .i64 0] 3) (hrf : ρ cf = none) (hrb : ρ cb = none) :
    Calls Tryz.prog 99 #[pv d, pv b, cutV cf cb] w fun e w' => e = .returned .nilIface ∧ ∃ ρ', DK w0 w' d ρ' { (s.withF b ⟨fa.num, [], fa.opn ++ [.other]⟩) with ch := s.ch.put (.int .i64 fa.num) (pd b), N := s.N + 1, opened := s.opened + 1, steps := s.steps + 1 } ∧ Turn w w' ρ ρ' ∧ Keeps ρ ρ' := by
  obtain ⟨bn, bs, bc, vs, vl, Gs, Gl, cs, h⟩ := h
  obtain ⟨i0, hi, hz0, hz1, hz2⟩ := info_parts stepInfo
  have hne := h.ne
  have HD := hide h
  have hnf : cf ≠ d := fun e => by rw [e, h.rd] at hrf; cases hrf
  have hnb : cb ≠ d := fun e => by rw [e, h.rd] at hrb; cases hrb
  clear h
  unfold cutV pv
  go_enter Tryz.func99, Tryz.ntmps99
  go_wp2_with fail
  refine (takeStep_free _ d _ _ _ _ _ _ _ _ _ _ _ HD.out.blk ha hs0 (by omega)).mono ?_
  rintro e w1 ⟨rfl, hw1⟩
  have hm1 : Mvs (fun k => k = d) w w1 := by rw [hw1]; exact (Mvs.refl _ _).setCell _ _ (fun _ => rfl)
  have H1 := hide (HD.out.ints hm1 s.created s.opened (s.steps + 1) s.armed s.off s.quota (by rw [hw1]; exact HD.out.blk.set 7 _))
  have HM1 := hide hm1
  have hcf1 := hide (hm1.blk hcf hnf)
  have hcb1 := hide (hm1.blk hcb hnb)
  clear hw1 hm1 hcf hcb
  obtain ⟨vb, vo, Gb, Go, fs, hF⟩ := H1.out.files b fa hφ
  obtain ⟨Ao, co, rfl⟩ := hF.orow.form
  have HF := hide hF
  have hcF := hF.blk.cell
  have hfF := hF.blk.frozen
  clear hF
  have HDd := hide (H1.out.keep (S := fun _ => False) (Mvs.refl _ w1).drew (fun _ _ _ c => c) (fun _ c => c.elim))
  have HFd := hide (HF.out.at (S := fun _ => False) (Mvs.refl _ w1).drew (fun _ _ _ c => c))
  have HC := hide (cutClo w1.drew ρ b fa vb _ Gb Go fs HFd.out hl cf cb hcf1.out hcb1.out)
  go_wp2_with fail
  unfold pv at HC
  go_region_law (first
    | (refine step_append_rw rfl (.tmp 17) (.tmp 20) 115 115 rfl 120 i0 (.agg #[.bool false, .int .i64 0, .nilFunc]) 3 24 Tryz.underlying115 hi hz0 hz1 hz2 rfl (by simp [Act.eval]) HRO.out _ 1 [.bool x0, .int .i64 m0, .func fn0 fi0 ca0] (by simp [Act.eval]) HSR.out (by simp only [maxLen]; omega) (by omega) ?_
       intro v4 w4 G4 hr4 hm4 hg4
       obtain ⟨A4, c4, rfl⟩ := hr4.form
       have hk4 := hide (hm4.blk ((HB3.out).alloc (.cells #[.bool x0, .int .i64 m0, .func fn0 fi0 ca0] 120)) Hbo.out)
       have hcF4 := hk4.out.cell
       have hfF4 := hk4.out.frozen
       have HR4 := hide hr4
       have HM4 := hide hm4
       have HG4 := hide hg4
       clear hr4 hm4 hg4)
    | (go_simp
       go_at_call 109
       refine HC.out.mono ?_
       rintro e w3 ⟨c0, c1, c2, rfl, hS⟩
       obtain ⟨x0, m0, fn0, fi0, ca0, rfl, rfl, rfl, ⟨vb3, hB3⟩, hbo, hRO, hSR⟩ := HFd.out.facts hS
       have HB3 := hide hB3
       have hcF3 := hB3.cell
       have hfF3 := hB3.frozen
       have hlt3 := hB3.lt
       have HRO := hide hRO
       have HSR := hide hSR
       have Hbo := hide hbo
       have HS := hide hS
       clear hS hB3 hbo hRO hSR))
  all_goals (
    have hD1d := HDd.out
    obtain ⟨ρ5, hD5, hT5, hK5⟩ := hD1d.stepped HFd.out HS.out ((((Mvs.refl (fun k => some k = Go) w3).alloc _)).trans HM4.out) HR4.out (HG4.out.imp id fun e => ⟨_, e, by simp⟩)
    have HT5 := hide hT5
    have HK5 := hide hK5
    clear hD1d hT5 hK5 HC HB3 hcF3 hfF3 hlt3 HRO HSR Hbo HS hk4 hcF4 hfF4 HR4 HM4 HG4 hcF hfF
    generalize w4.setCell ⟨b, 2, none⟩ _ = w5 at *
    have hk5 : Blk w5 d #[.map (some bn), .map (some bs), vs, .map (some bc), vl, .int .i64 s.created, .int .i64 s.opened, .int .i64 (s.steps + 1), .int .i64 s.armed, .bool s.off, .int .i64 s.quota] 77 := hD5.blk
    have hc5 := hk5.cell
    obtain ⟨vb5, vo5, Gb5, Go5, fs5, hF5⟩ := hD5.files b _ (show (if b = b then _ else _) = some _ from if_pos rfl)
    have hcf5 := hF5.blk.cell
    obtain ⟨w6, hrun6, hN6, hg6⟩ := (World.ownsMap.drew hD5.chg).update intKeyed Tryz.underlying73 (by show s.N < maxLen; simp only [maxLen]; omega) (keyInt fa.num hn0 (by omega)) (show ptrElem (pv b) = some (pd b, []) from rfl)
    have HD5 := hide hD5
    have HN6 := hide hN6
    have HG6 := hide hg6
    have hk6 := hide ((Mvs.of_grown hg6).blk (x := w5.drew) hk5 (fun e => hne.2.2.1 (Option.some.inj e).symm))
    have hc6 := hk6.out.cell
    have hf6 := hk6.out.frozen
    unfold pv at hrun6
    clear hD5 hN6 hg6 hk5 hF5 hi hz0 hz1 hz2
    go_wp2_with fail
    go_region
    go_wp2
    go_ret
    have hm6 : Mvs (fun k => k = bc) w5.drew w6 := (Mvs.of_grown HG6.out).mono fun _ _ e => Option.some.inj e
    have hD5d := HD5.out.keep (S := fun _ => False) (Mvs.refl _ w5).drew (fun _ _ _ c => c) (fun _ c => c.elim)
    have hD6 := hD5d.chn hm6 _ HN6.out
    have hm7 : Mvs (fun k => k = d) w6 (w6.setCell ⟨d, 6, none⟩ (.int .i64 (s.opened + 1))) := (Mvs.refl (fun k => k = d) w6).setCell ⟨d, 6, none⟩ _ (fun _ => rfl)
    have hD7 := hD6.ints hm7 s.created (s.opened + 1) (s.steps + 1) s.armed s.off s.quota (hk6.out.set 6 _)
    have t1 : Turn w w1.drew ρ ρ := ⟨(HM1.out.mono fun i _ e => by subst e; exact ⟨_, HD.out.rd⟩).drew, fun k r hr _ => ⟨r, hr⟩⟩
    have t2 : Turn w5 w6 ρ5 ρ5 := ⟨((Mvs.refl _ w5).drew).trans (hm6.mono fun i _ e => by subst e; exact ⟨_, HD5.out.rc⟩), fun k r hr _ => ⟨r, hr⟩⟩
    have t3 : Turn w6 (w6.setCell ⟨d, 6, none⟩ (.int .i64 (s.opened + 1))) ρ5 ρ5 := ⟨hm7.mono fun i _ e => by subst e; exact ⟨_, HD5.out.rd⟩, fun k r hr _ => ⟨r, hr⟩⟩
    exact ⟨rfl, ρ5, ⟨_, _, _, _, _, _, _, _, hD7⟩, t1.trans (HT5.out.trans (t2.trans t3)), HK5.out⟩)
end Go.Proofs.YtcbkmcagnmpifaaGreatDoor

end
