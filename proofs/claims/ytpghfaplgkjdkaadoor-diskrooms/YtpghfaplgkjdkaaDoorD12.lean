/- A disk: changeFile, with the step of a Truncate to nothing. -/
import Derived.Test.YtpghfaplgkjdkaaDoorD11
namespace Go.Proofs.YtpghfaplgkjdkaaDoor
open Go.RowKit Go.Maps
set_option maxRecDepth 20000 in
set_option maxHeartbeats 4000000 in
theorem changeFile_cut (w0 w : World) (d : Nat) (ρ : Nat → Option Role) (s : St) (h : DK w0 w d ρ s) (ha : s.armed < 0) (hs0 : 0 ≤ s.steps) (hs1 : s.steps ≤ 1000000) (ho0 : 0 ≤ s.opened) (ho1 : s.opened ≤ 1000000) (hN : s.N ≤ 100000)
    (b : Nat) (fa : FA) (hφ : s.φ b = some fa) (hn0 : 0 ≤ fa.num) (hn1 : fa.num ≤ 1000000) (hop : fa.opn.length ≤ 1000000) (hl : fa.bytes.length ≤ 1000000)
    (cf cb : Nat) (hcf : Blk w cf #[pv b] 51) (hcb : Blk w cb #[.int .i64 0] 3) (hrf : ρ cf = none) (hrb : ρ cb = none) :
    Calls Tryd.prog 22 #[pv d, pv b, cutV cf cb] w fun e w' => e = .returned .nilIface ∧ ∃ ρ', DK w0 w' d ρ' { (s.withF b ⟨fa.num, [], fa.opn ++ [.other]⟩) with ch := s.ch.put (.int .i64 fa.num) (pd b), N := s.N + 1, opened := s.opened + 1, steps := s.steps + 1 } ∧ Turn w w' ρ ρ' ∧ Keeps ρ ρ' := by
  obtain ⟨bn, bs, bc, vs, vl, Gs, Gl, cs, h⟩ := h
  obtain ⟨i0, hi, hz0, hz1, hz2⟩ := info_parts stepInfo
  have hne := h.ne
  have HD := hide h
  have hnf : cf ≠ d := fun e => by rw [e, h.rd] at hrf; cases hrf
  have hnb : cb ≠ d := fun e => by rw [e, h.rd] at hrb; cases hrb
  clear h
  unfold cutV pv
  go_enter Tryd.func22, Tryd.ntmps22
  go_wp2_with fail
  refine (takeStep_free _ d _ _ _ _ _ _ _ _ _ _ _ HD.out.blk ha hs0 (by omega)).mono ?_
  rintro e w1 ⟨rfl, hw1⟩
  have hm1 : Mvs (fun k => k = d) w w1 := by rw [hw1]; exact (Mvs.refl _ _).setCell _ _ (fun _ => rfl)
  have H1 := hide (HD.out.ints hm1 s.created s.opened (s.steps + 1) s.armed s.off s.quota (by rw [hw1]; exact HD.out.blk.set 7 _))
  have HM1 := hide hm1
  have hcf1 := hide (hm1.blk hcf hnf)
  have hcb1 := hide (hm1.blk hcb hnb)
  clear hw1 hm1 hcf hcb
  obtain ⟨vb, vo, Gb, Go, fs, hF⟩ := H1.out.files b fa hφ
  obtain ⟨Ao, co, rfl⟩ := hF.orow.form
  have HF := hide hF
  have hcF := hF.blk.cell
  have hfF := hF.blk.frozen
  clear hF
  have HDd := hide (H1.out.keep (S := fun _ => False) (Mvs.refl _ w1).drew (fun _ _ _ c => c) (fun _ c => c.elim))
  have HFd := hide (HF.out.at (S := fun _ => False) (Mvs.refl _ w1).drew (fun _ _ _ c => c))
  have HC := hide (cutClo w1.drew ρ b fa vb _ Gb Go fs HFd.out hl cf cb hcf1.out hcb1.out)
  go_wp2_with fail
  unfold pv at HC
  go_region_law (first
    | (refine step_append_rw rfl (.tmp 17) (.tmp 20) 54 54 rfl 63 i0 (.agg #[.bool false, .int .i64 0, .nilFunc]) 3 24 Tryd.underlying54 hi hz0 hz1 hz2 rfl (by simp [Act.eval]) HRO.out _ 1 [.bool x0, .int .i64 m0, .func fn0 fi0 ca0] (by simp [Act.eval]) HSR.out (by simp only [maxLen]; omega) (by omega) ?_
       intro v4 w4 G4 hr4 hm4 hg4
       obtain ⟨A4, c4, rfl⟩ := hr4.form
       have hk4 := hide (hm4.blk ((HB3.out).alloc (.cells #[.bool x0, .int .i64 m0, .func fn0 fi0 ca0] 63)) Hbo.out)
       have hcF4 := hk4.out.cell
       have hfF4 := hk4.out.frozen
       have HR4 := hide hr4
       have HM4 := hide hm4
       have HG4 := hide hg4
       clear hr4 hm4 hg4)
    | (go_simp
       go_at_call 27
       refine HC.out.mono ?_
       rintro e w3 ⟨c0, c1, c2, rfl, hS⟩
       obtain ⟨x0, m0, fn0, fi0, ca0, rfl, rfl, rfl, ⟨vb3, hB3⟩, hbo, hRO, hSR⟩ := HFd.out.facts hS
       have HB3 := hide hB3
       have hcF3 := hB3.cell
       have hfF3 := hB3.frozen
       have hlt3 := hB3.lt
       have HRO := hide hRO
       have HSR := hide hSR
       have Hbo := hide hbo
       have HS := hide hS
       clear hS hB3 hbo hRO hSR))
  all_goals (
    have hD1d := HDd.out
    obtain ⟨ρ5, hD5, hT5, hK5⟩ := hD1d.stepped HFd.out HS.out ((((Mvs.refl (fun k => some k = Go) w3).alloc _)).trans HM4.out) HR4.out (HG4.out.imp id fun e => ⟨_, e, by simp⟩)
    have HT5 := hide hT5
    have HK5 := hide hK5
    clear hD1d hT5 hK5 HC HB3 hcF3 hfF3 hlt3 HRO HSR Hbo HS hk4 hcF4 hfF4 HR4 HM4 HG4 hcF hfF
    generalize w4.setCell ⟨b, 2, none⟩ _ = w5 at *
    have hk5 : Blk w5 d #[.map (some bn), .map (some bs), vs, .map (some bc), vl, .int .i64 s.created, .int .i64 s.opened, .int .i64 (s.steps + 1), .int .i64 s.armed, .bool s.off, .int .i64 s.quota] 49 := hD5.blk
    have hc5 := hk5.cell
    obtain ⟨vb5, vo5, Gb5, Go5, fs5, hF5⟩ := hD5.files b _ (show (if b = b then _ else _) = some _ from if_pos rfl)
    have hcf5 := hF5.blk.cell
    obtain ⟨w6, hrun6, hN6, hg6⟩ := (World.ownsMap.drew hD5.chg).update intKeyed Tryd.underlying45 (by show s.N < maxLen; simp only [maxLen]; omega) (keyInt fa.num hn0 (by omega)) (show ptrElem (pv b) = some (pd b, []) from rfl)
    have HD5 := hide hD5
    have HN6 := hide hN6
    have HG6 := hide hg6
    have hk6 := hide ((Mvs.of_grown hg6).blk (x := w5.drew) hk5 (fun e => hne.2.2.1 (Option.some.inj e).symm))
    have hc6 := hk6.out.cell
    have hf6 := hk6.out.frozen
    unfold pv at hrun6
    clear hD5 hN6 hg6 hk5 hF5 hi hz0 hz1 hz2
    go_wp2_with fail
    go_region
    go_wp2
    go_ret
    have hm6 : Mvs (fun k => k = bc) w5.drew w6 := (Mvs.of_grown HG6.out).mono fun _ _ e => Option.some.inj e
    have hD5d := HD5.out.keep (S := fun _ => False) (Mvs.refl _ w5).drew (fun _ _ _ c => c) (fun _ c => c.elim)
    have hD6 := hD5d.chn hm6 _ HN6.out
    have hm7 : Mvs (fun k => k = d) w6 (w6.setCell ⟨d, 6, none⟩ (.int .i64 (s.opened + 1))) := (Mvs.refl (fun k => k = d) w6).setCell ⟨d, 6, none⟩ _ (fun _ => rfl)
    have hD7 := hD6.ints hm7 s.created (s.opened + 1) (s.steps + 1) s.armed s.off s.quota (hk6.out.set 6 _)
    have t1 : Turn w w1.drew ρ ρ := ⟨(HM1.out.mono fun i _ e => by subst e; exact ⟨_, HD.out.rd⟩).drew, fun k r hr _ => ⟨r, hr⟩⟩
    have t2 : Turn w5 w6 ρ5 ρ5 := ⟨((Mvs.refl _ w5).drew).trans (hm6.mono fun i _ e => by subst e; exact ⟨_, HD5.out.rc⟩), fun k r hr _ => ⟨r, hr⟩⟩
    have t3 : Turn w6 (w6.setCell ⟨d, 6, none⟩ (.int .i64 (s.opened + 1))) ρ5 ρ5 := ⟨hm7.mono fun i _ e => by subst e; exact ⟨_, HD5.out.rd⟩, fun k r hr _ => ⟨r, hr⟩⟩
    exact ⟨rfl, ρ5, ⟨_, _, _, _, _, _, _, _, hD7⟩, t1.trans (HT5.out.trans (t2.trans t3)), HK5.out⟩)
end Go.Proofs.YtpghfaplgkjdkaaDoor
