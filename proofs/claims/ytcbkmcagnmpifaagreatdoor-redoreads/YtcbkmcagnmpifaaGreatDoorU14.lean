/- A disk: the calls that take a step, whether the power is armed or not. -/
/- A disk: the power goes at a step. -/
import Derived.Test.YtcbkmcagnmpifaaGreatDoorU13
section
namespace Go.Proofs.YtcbkmcagnmpifaaGreatDoor
open Go.RowKit Go.Maps
structure St.SmallG (s : St) : Prop where
  armed : s.armed ≠ 0
  armed1 : s.armed ≤ 1000000000
  s0 : 0 ≤ s.steps
  s1 : s.steps ≤ 1000000
  o0 : 0 ≤ s.opened
  o1 : s.opened ≤ 1000000
  n : s.N ≤ 100000
  off : s.off = false
  q0 : 0 ≤ s.quota
  q1 : s.quota ≤ 1073741824
  u : usedOf s ≤ 1000000
set_option maxRecDepth 8000 in
set_option maxHeartbeats 2000000 in
theorem changeNames_createG (w0 w : World) (d : Nat) (ρ : Nat → Option Role) (s : St) (name : List UInt8) (f cf cn : Nat) (h : DK w0 w d ρ s) (ha : s.armed ≠ 0) (ha1 : s.armed ≤ 1000000000) (hs0 : 0 ≤ s.steps) (hs1 : s.steps ≤ 1000000) (ho0 : 0 ≤ s.opened) (ho1 : s.opened ≤ 1000000) (hN : s.N ≤ 100000) (hns : s.ns ≤ 1000000)
    (hl : name.length ≤ 1000000) (hcf : Blk w cf #[pv f] 88) (hcn : Blk w cn #[.string ⟨name.toArray⟩] 9) (hrf : ρ cf = none) (hrn : ρ cn = none) (hφ : (s.φ f).isSome = true) :
    Calls Tryz.prog 87 #[pv d, fnV cf cn] w fun e w' => e = .returned .nilIface ∧ ∃ ρ', DK w0 w' d ρ' { s with D := s.D.put (.string name) (pd f), N := s.N + 1, ns := s.ns + 1, opened := s.opened + 1, steps := s.steps + 1, armed := dec s.armed } ∧ Turn w w' ρ ρ' ∧ Keeps ρ ρ' := by
  obtain ⟨bn, bs, bc, vs, vl, Gs, Gl, cs, h⟩ := h
  obtain ⟨i0, hi, hz0, hz1, hz2⟩ := info_parts funInfo
  have hne := h.ne
  have HD := hide h
  have hnf : cf ≠ d := fun e => by rw [e, h.rd] at hrf; cases hrf
  have hnn : cn ≠ d := fun e => by rw [e, h.rd] at hrn; cases hrn
  clear h
  unfold fnV pv
  go_enter Tryz.func87, Tryz.ntmps87
  go_wp2_with fail
  refine (takeStep_ok _ d _ _ _ _ _ _ _ _ _ _ _ HD.out.blk ha ha1 hs0 (by omega)).mono ?_
  rintro e w1 ⟨rfl, hm1, hk0⟩
  have H1 := hide (HD.out.ints hm1 s.created s.opened (s.steps + 1) (dec s.armed) s.off s.quota hk0)
  have HM1 := hide hm1
  have hcf1 := hide (hm1.blk hcf hnf)
  have hcn1 := hide (hm1.blk hcn hnn)
  clear hk0 hm1 hcf hcn
  obtain ⟨As, cc, rfl⟩ := H1.out.row.form
  have hk1 : Blk w1 d #[.map (some bn), .map (some bs), .slice As s.ns cc, .map (some bc), vl, .int .i64 s.created, .int .i64 s.opened, .int .i64 (s.steps + 1), (.int .i64 (dec s.armed)), .bool s.off, .int .i64 s.quota] 77 := H1.out.blk
  have hc1 := hk1.cell
  go_wp2_with fail
  refine (createClo w1 bn s.N s.D name f cf cn (by omega) hl H1.out.names hcf1.out hcn1.out).mono ?_
  rintro e w2 ⟨rfl, hN2, hm2⟩
  have H2 := hide (H1.out.nam hm2 _ hN2 (there_put H1.out.names.isMap trivial HD.out.vD hφ) (entries_put H1.out.names.isMap HD.out.eD))
  have HM2 := hide hm2
  have hk2 := hide (hm2.blk hk1 (fun e => hne.1 e.symm))
  clear hc1 hN2 hm2 hcf1 hcn1 hk1
  have hc2 := hk2.out.cell
  have hrow : Hid (Rw w2 1 (.slice As s.ns cc) s.ns cs Gs) := H2.out.row
  go_wp2_with (at_builtin; refine wpList_append_rw rfl _ _ 74 74 rfl 111 i0 .nilFunc 1 8 Tryz.underlying74 hi hz0 hz1 hz2 rfl rfl (hrow.out.keep (S := fun _ => False) ((Mvs.refl _ _).alloc _) (fun _ _ c => c)) _ 1 [fnV cf cn] rfl (src_one Tryz.underlying74 (fnV cf cn) rfl) (by simp only [maxLen]; omega) (by omega) ?_)
  intro v3 w3 G3 hr3 hm3 hg3
  obtain ⟨A3, c3, rfl⟩ := hr3.form
  have hm23 : Mvs (fun k => some k = Gs) w2 w3 := (((Mvs.refl (fun k => some k = Gs) w2).alloc _).trans hm3)
  have hG3 : G3 = Gs ∨ ∃ g, G3 = some g ∧ w2.heap.size ≤ g := hg3.imp id fun e => ⟨_, e, by simp⟩
  have hk3 := hide (hm23.blk hk2.out (fun e => by have := HD.out.rsteps d e.symm; rw [HD.out.rd] at this; cases this))
  have hc3 := hk3.out.cell
  have hf3 := hk3.out.frozen
  have HR3 := hide hr3
  have HM3 := hide hm23
  have HG3 := hide hG3
  have hlt3 := hide hr3.lt
  clear hr3 hm3 hg3 hm23 hG3 hk2 hc2 hrow hi hz0 hz1 hz2
  go_wp2
  go_ret
  have hkk := (hk3.out.set 2 (.slice A3 (s.ns + 1) c3)).set 6 (.int .i64 (s.opened + 1))
  have hmm : Mvs (fun k => k = d) w3 ((w3.setCell ⟨d, 2, none⟩ (.slice A3 (s.ns + 1) c3)).setCell ⟨d, 6, none⟩ (.int .i64 (s.opened + 1))) := ((Mvs.refl (fun k => k = d) w3).setCell ⟨d, 2, none⟩ _ (fun _ => rfl)).setCell ⟨d, 6, none⟩ _ (fun _ => rfl)
  have hmA : Mvs (fun k => some k = Gs ∨ k = d) w2 ((w3.setCell ⟨d, 2, none⟩ (.slice A3 (s.ns + 1) c3)).setCell ⟨d, 6, none⟩ (.int .i64 (s.opened + 1))) := (HM3.out.mono fun _ _ e => .inl e).trans (hmm.mono fun _ _ e => .inr e)
  have hGd : ∀ g, G3 = some g → ¬ g = d := fun g hg e => by
    subst e
    rcases HG3.out with e | ⟨g', e, hle⟩
    · have := HD.out.rsteps g (e ▸ hg)
      rw [HD.out.rd] at this
      cases this
    · rw [e] at hg
      cases hg
      have := H2.out.lt H2.out.rd
      omega
  obtain ⟨hD, hkeep⟩ := H2.out.grow hmA (HR3.out.keep hmm hGd) HG3.out (s.opened + 1) hkk
  refine ⟨rfl, _, ⟨_, _, _, _, _, _, _, _, hD⟩, ⟨?_, fun k r hr hlt => ?_⟩, hkeep⟩
  · refine (((HM1.out.mono (S' := fun k => ∃ r, ρ k = some r) fun i _ e => by subst e; exact ⟨_, HD.out.rd⟩).trans (HM2.out.mono fun i _ e => by subst e; exact ⟨_, HD.out.rn⟩)).trans (hmA.mono fun i _ e => ?_))
    rcases e with e | rfl
    · exact ⟨_, HD.out.rsteps i e.symm⟩
    · exact ⟨_, HD.out.rd⟩
  · unfold putRole at hr
    split at hr
    · rename_i e
      rcases HG3.out with e1 | ⟨g, e1, hle⟩
      · exact ⟨_, HD.out.rsteps k (e1 ▸ e.symm)⟩
      · rw [e1] at e
        cases e
        have := HM1.out.size
        have := HM2.out.size
        omega
    · exact ⟨r, hr⟩
def St.madeG (s : St) (name : List UInt8) (f : Nat) : St := { s.made name f with armed := dec s.armed }
set_option maxRecDepth 8000 in
set_option maxHeartbeats 2000000 in
theorem create_okG (w0 w : World) (d : Nat) (ρ : Nat → Option Role) (s : St) (a : Nat → Addr) (hE : Errs w0 a) (h : DK w0 w d ρ s) (hoff : s.off = false) (ha : s.armed ≠ 0) (ha1 : s.armed ≤ 1000000000) (hs0 : 0 ≤ s.steps) (hs1 : s.steps ≤ 1000000) (ho0 : 0 ≤ s.opened) (ho1 : s.opened ≤ 1000000) (hc0 : 0 ≤ s.created) (hc1 : s.created ≤ 1000000) (hN : s.N ≤ 60) (hns : s.ns ≤ 1000000)
    (name : List UInt8) (hr : rightB name = true) (hf : s.D.atKey (.string name) .nil = .nil) :
    Calls Tryz.prog 59 #[pv d, .string ⟨name.toArray⟩] w fun e w' => e = .returned .nilIface ∧ ∃ ρ' f, DK w0 w' d ρ' (s.madeG name f) ∧ Turn w w' ρ ρ' ∧ w.heap.size ≤ f := by
  have hn : name.length ≤ 24 := by
    unfold rightB at hr
    simp at hr
    exact hr.2.2
  have hb1 : Below w.heap.size w (w.alloc (.cells #[.string ⟨name.toArray⟩] 9)) := (Below.refl _ _).alloc (Nat.le_refl _) _
  have HF := hide (find_none w0 _ d ρ s a hE (h.then hb1) hoff name hr hf)
  have hE1 := hE.below (h.then hb1).below
  have HC := hide hb1
  have HK := hide (Blk.new w #[.string ⟨name.toArray⟩] 9)
  have HH := hide (h.then hb1)
  have hg : Hid (∀ m, (World.drewN (w.alloc (.cells #[.string ⟨name.toArray⟩] 9)) m).cell? ⟨4, 0, none⟩ = some (errV a 4)) := fun m => hE1.cell 4 (by decide)
  have hoffn := hide (show ∀ k, w.heap.size ≤ k → ρ k = none by
    obtain ⟨bn, bs, bc, vs, vl, Gs, Gl, cs, h⟩ := h
    exact fun k hk => h.off hk)
  have hes := err_same
  have hsz1 : Hid ((w.alloc (.cells #[.string ⟨name.toArray⟩] 9)).heap.size = w.heap.size + 1) := by
    show _ = _
    simp
  clear h hE hE1 hb1 hf
  unfold pv errV at *
  go_enter Tryz.func59, Tryz.ntmps59
  go_wp2_with fail
  refine HF.out.mono ?_
  rintro e w1 ⟨rfl, m, rfl⟩
  have hg1 := hg.out m
  have hb2 := hide (HC.out.trans ((below_drewN _ m).mono HC.out.size))
  have HH2 := hide (HH.out.drewN m)
  have HK2 : Hid (Blk (World.drewN (w.alloc (.cells #[.string ⟨name.toArray⟩] 9)) m) w.heap.size #[.string ⟨name.toArray⟩] 9) := HK.out
  have hsz2 : Hid ((World.drewN (w.alloc (.cells #[.string ⟨name.toArray⟩] 9)) m).heap.size = w.heap.size + 1) := hsz1.out
  clear HF hg HC HH HK hsz1
  generalize World.drewN _ m = W at *
  obtain ⟨bn, bs, bc, vs, vl, Gs, Gl, cs, hD⟩ := HH2.out
  have hc := hD.blk.cell
  have hlen := hD.names.len Tryz.underlying72
  have hle : ((Maps.size s.D : Nat) : Int) ≤ 60 := by have := hD.names.size_le; omega
  have HD := hide hD
  clear hD HH2
  go_wp2_with fail
  obtain ⟨W2, hW2⟩ : ∃ W2, W2 = (W.alloc (.cells #[.int .i64 s.created, .slice none 0 0, .slice none 0 0] 117)).alloc (.cells #[.pointer (some ⟨W.heap.size, 0, none⟩)] 88) := ⟨_, rfl⟩
  rw [← hW2]
  have hbW : Below W.heap.size W W2 := by rw [hW2]; exact ((Below.refl _ _).alloc (Nat.le_refl _) _).alloc (by simp) _
  have k0 : Blk W2 W.heap.size #[.int .i64 s.created, .slice none 0 0, .slice none 0 0] 117 := by rw [hW2]; exact (Blk.new W _ _).alloc _
  have k1 : Blk W2 (W.heap.size + 1) #[pv W.heap.size] 88 := by rw [hW2]; exact Blk.new1 W _ _ _
  have k2 : Blk W2 w.heap.size #[.string ⟨name.toArray⟩] 9 := HK2.out.below hbW (by rw [hsz2.out]; omega)
  have hkeepW := HD.out.keep (S := fun _ => False) (Mvs.of_below hbW) (fun _ _ _ c => c) (fun _ c => c.elim)
  have hfr := HD.out.fresh (Nat.le_refl _)
  have hWw : w.heap.size + 1 = W.heap.size := hsz2.out.symm
  have hw0 : w0.heap.size ≤ W.heap.size := HD.out.below.size
  obtain ⟨hadd, hkp⟩ := hkeepW.addFile (f := W.heap.size) (hoffn.out _ (by omega)) hw0 s.created k0 hfr
  have hmW : Mvs (fun k => ∃ r, ρ k = some r) w W2 := Mvs.of_below (hb2.out.trans (hbW.mono (by omega)))
  refine (changeNames_createG w0 W2 d _ _ name W.heap.size (W.heap.size + 1) w.heap.size ⟨_, _, _, _, _, _, _, _, hadd⟩ ha ha1 hs0 hs1 ho0 ho1 (by show s.N ≤ _; omega) hns (by omega) k1 k2 (by unfold putRole; rw [if_neg (by simp)]; exact hoffn.out _ (by omega)) (by unfold putRole; rw [if_neg (by simp; omega)]; exact hoffn.out _ (by omega)) (by simp)).mono ?_
  rintro e w3 ⟨rfl, ρ3, hD3, ht3, hk3⟩
  have hmW := hide hmW
  have HT := hide ht3
  have hWle : Hid (w.heap.size ≤ W.heap.size) := by show _ ≤ _; omega
  obtain ⟨bn3, bs3, bc3, vs3, vl3, Gs3, Gl3, cs3, hD3⟩ := hD3
  have hk4 : Blk w3 d #[.map (some bn3), .map (some bs3), vs3, .map (some bc3), vl3, .int .i64 s.created, .int .i64 (s.opened + 1), .int .i64 (s.steps + 1), .int .i64 (dec s.armed), .bool s.off, .int .i64 s.quota] 77 := hD3.blk
  have hc4 := hk4.cell
  have hf4 := hk4.frozen
  have HK4 := hide hk4
  have HD3 := hide hD3
  clear hD3 hk4 hc hlen hle hg1 hkp hadd hkeepW k0 k1 k2 hbW hfr hk3 ht3 hWw hw0
  go_wp2
  go_ret
  have hm4 : Mvs (fun k => k = d) w3 (w3.setCell ⟨d, 5, none⟩ (.int .i64 (s.created + 1))) := (Mvs.refl (fun k => k = d) w3).setCell ⟨d, 5, none⟩ _ (fun _ => rfl)
  have hD4 := HD3.out.ints hm4 (s.created + 1) (s.opened + 1) (s.steps + 1) (dec s.armed) s.off s.quota (HK4.out.set 5 _)
  have hT := HT.out
  refine ⟨rfl, ρ3, W.heap.size, ⟨_, _, _, _, _, _, _, _, hD4⟩, ⟨?_, fun k r hr hlt => ?_⟩, hWle.out⟩
  · refine (hmW.out.trans' hT.1 (fun i hi ⟨r, hr⟩ => ?_)).trans (hm4.mono fun i _ e => ?_)
    · unfold putRole at hr
      split at hr
      · rename_i e
        cases e
        have := hWle.out
        omega
      · exact ⟨r, hr⟩
    · subst e
      exact ⟨_, HD.out.rd⟩
  · obtain ⟨r', hr'⟩ := hT.2 k r hr (Nat.lt_of_lt_of_le hlt hmW.out.size)
    unfold putRole at hr'
    split at hr'
    · rename_i e
      cases e
      have := hWle.out
      omega
    · exact ⟨r', hr'⟩
set_option maxRecDepth 20000 in
set_option maxHeartbeats 4000000 in
theorem changeFile_putG (w0 w : World) (d : Nat) (ρ : Nat → Option Role) (s : St) (h : DK w0 w d ρ s) (ha : s.armed ≠ 0) (ha1 : s.armed ≤ 1000000000) (hs0 : 0 ≤ s.steps) (hs1 : s.steps ≤ 1000000) (ho0 : 0 ≤ s.opened) (ho1 : s.opened ≤ 1000000) (hN : s.N ≤ 100000)
    (b : Nat) (fa : FA) (hφ : s.φ b = some fa) (hn0 : 0 ≤ fa.num) (hn1 : fa.num ≤ 1000000) (hop : fa.opn.length ≤ 1000000) (x : Value) (news : List UInt8) (hx : BR w x news) (hxr : ∀ A n c, x = .slice (some A) n c → ρ A.block = none) (hl : fa.bytes.length + news.length ≤ 1000000000)
    (cf cb : Nat) (hcf : Blk w cf #[pv b] 88) (hcb : Blk w cb #[x] 25) (hrf : ρ cf = none) (hrb : ρ cb = none) :
    Calls Tryz.prog 99 #[pv d, pv b, appV cf cb] w fun e w' => e = .returned .nilIface ∧ ∃ ρ', DK w0 w' d ρ' { (s.withF b ⟨fa.num, fa.bytes ++ news, fa.opn ++ [.put fa.bytes.length news.length]⟩) with ch := s.ch.put (.int .i64 fa.num) (pd b), N := s.N + 1, opened := s.opened + 1, steps := s.steps + 1, armed := dec s.armed } ∧ Turn w w' ρ ρ' ∧ Keeps ρ ρ' := by
  obtain ⟨bn, bs, bc, vs, vl, Gs, Gl, cs, h⟩ := h
  obtain ⟨i0, hi, hz0, hz1, hz2⟩ := info_parts stepInfo
  have hne := h.ne
  have HD := hide h
  have hnf : cf ≠ d := fun e => by rw [e, h.rd] at hrf; cases hrf
  have hnb : cb ≠ d := fun e => by rw [e, h.rd] at hrb; cases hrb
  clear h
  unfold appV pv
  go_enter Tryz.func99, Tryz.ntmps99
  go_wp2_with fail
  refine (takeStep_ok _ d _ _ _ _ _ _ _ _ _ _ _ HD.out.blk ha ha1 hs0 (by omega)).mono ?_
  rintro e w1 ⟨rfl, hm1, hk0⟩
  have H1 := hide (HD.out.ints hm1 s.created s.opened (s.steps + 1) (dec s.armed) s.off s.quota hk0)
  have HM1 := hide hm1
  have hx1 := hide (AR.keep hx hm1 (fun A n c e e' => by have := hxr A n c e; rw [e', HD.out.rd] at this; cases this))
  have hcf1 := hide (hm1.blk hcf hnf)
  have hcb1 := hide (hm1.blk hcb hnb)
  clear hk0 hm1 hcf hcb hx
  obtain ⟨vb, vo, Gb, Go, fs, hF⟩ := H1.out.files b fa hφ
  obtain ⟨Ao, co, rfl⟩ := hF.orow.form
  have HF := hide hF
  have hcF := hF.blk.cell
  have hfF := hF.blk.frozen
  clear hF
  have HDd := hide (H1.out.keep (S := fun _ => False) (Mvs.refl _ w1).drew (fun _ _ _ c => c) (fun _ c => c.elim))
  have HFd := hide (HF.out.at (S := fun _ => False) (Mvs.refl _ w1).drew (fun _ _ _ c => c))
  have HC := hide (appendClo w1.drew ρ b fa vb _ Gb Go fs HFd.out x news (hx1.out.below (below_drewN w1 1)) hl cf cb hcf1.out hcb1.out)
  go_wp2_with fail
  unfold pv at HC
  go_region_law (first
    | (refine step_append_rw rfl (.tmp 17) (.tmp 20) 115 115 rfl 120 i0 (.agg #[.bool false, .int .i64 0, .nilFunc]) 3 24 Tryz.underlying115 hi hz0 hz1 hz2 rfl (by simp [Act.eval]) HRO.out _ 1 [.bool x0, .int .i64 m0, .func fn0 fi0 ca0] (by simp [Act.eval]) HSR.out (by simp only [maxLen]; omega) (by omega) ?_
       intro v4 w4 G4 hr4 hm4 hg4
       obtain ⟨A4, c4, rfl⟩ := hr4.form
       have hk4 := hide (hm4.blk ((HB3.out).alloc (.cells #[.bool x0, .int .i64 m0, .func fn0 fi0 ca0] 120)) Hbo.out)
       have hcF4 := hk4.out.cell
       have hfF4 := hk4.out.frozen
       have HR4 := hide hr4
       have HM4 := hide hm4
       have HG4 := hide hg4
       clear hr4 hm4 hg4)
    | (go_simp
       go_at_call 100
       refine HC.out.mono ?_
       rintro e w3 ⟨c0, c1, c2, rfl, hS⟩
       obtain ⟨x0, m0, fn0, fi0, ca0, rfl, rfl, rfl, ⟨vb3, hB3⟩, hbo, hRO, hSR⟩ := HFd.out.facts hS
       have HB3 := hide hB3
       have hcF3 := hB3.cell
       have hfF3 := hB3.frozen
       have hlt3 := hB3.lt
       have HRO := hide hRO
       have HSR := hide hSR
       have Hbo := hide hbo
       have HS := hide hS
       clear hS hB3 hbo hRO hSR))
  all_goals (
    have hD1d := HDd.out
    obtain ⟨ρ5, hD5, hT5, hK5⟩ := hD1d.stepped HFd.out HS.out ((((Mvs.refl (fun k => some k = Go) w3).alloc _)).trans HM4.out) HR4.out (HG4.out.imp id fun e => ⟨_, e, by simp⟩)
    have HT5 := hide hT5
    have HK5 := hide hK5
    clear hD1d hT5 hK5 HC HB3 hcF3 hfF3 hlt3 HRO HSR Hbo HS hk4 hcF4 hfF4 HR4 HM4 HG4 hcF hfF
    generalize w4.setCell ⟨b, 2, none⟩ _ = w5 at *
    have hk5 : Blk w5 d #[.map (some bn), .map (some bs), vs, .map (some bc), vl, .int .i64 s.created, .int .i64 s.opened, .int .i64 (s.steps + 1), (.int .i64 (dec s.armed)), .bool s.off, .int .i64 s.quota] 77 := hD5.blk
    have hc5 := hk5.cell
    obtain ⟨vb5, vo5, Gb5, Go5, fs5, hF5⟩ := hD5.files b _ (show (if b = b then _ else _) = some _ from if_pos rfl)
    have hcf5 := hF5.blk.cell
    obtain ⟨w6, hrun6, hN6, hg6⟩ := (World.ownsMap.drew hD5.chg).update intKeyed Tryz.underlying73 (by show s.N < maxLen; simp only [maxLen]; omega) (keyInt fa.num hn0 (by omega)) (show ptrElem (pv b) = some (pd b, []) from rfl)
    have HD5 := hide hD5
    have HN6 := hide hN6
    have HG6 := hide hg6
    have hk6 := hide ((Mvs.of_grown hg6).blk (x := w5.drew) hk5 (fun e => hne.2.2.1 (Option.some.inj e).symm))
    have hc6 := hk6.out.cell
    have hf6 := hk6.out.frozen
    unfold pv at hrun6
    clear hD5 hN6 hg6 hk5 hF5 hi hz0 hz1 hz2
    go_wp2_with fail
    go_region
    go_wp2
    go_ret
    have hm6 : Mvs (fun k => k = bc) w5.drew w6 := (Mvs.of_grown HG6.out).mono fun _ _ e => Option.some.inj e
    have hD5d := HD5.out.keep (S := fun _ => False) (Mvs.refl _ w5).drew (fun _ _ _ c => c) (fun _ c => c.elim)
    have hD6 := hD5d.chn hm6 _ HN6.out
    have hm7 : Mvs (fun k => k = d) w6 (w6.setCell ⟨d, 6, none⟩ (.int .i64 (s.opened + 1))) := (Mvs.refl (fun k => k = d) w6).setCell ⟨d, 6, none⟩ _ (fun _ => rfl)
    have hD7 := hD6.ints hm7 s.created (s.opened + 1) (s.steps + 1) (dec s.armed) s.off s.quota (hk6.out.set 6 _)
    have t1 : Turn w w1.drew ρ ρ := ⟨(HM1.out.mono fun i _ e => by subst e; exact ⟨_, HD.out.rd⟩).drew, fun k r hr _ => ⟨r, hr⟩⟩
    have t2 : Turn w5 w6 ρ5 ρ5 := ⟨((Mvs.refl _ w5).drew).trans (hm6.mono fun i _ e => by subst e; exact ⟨_, HD5.out.rc⟩), fun k r hr _ => ⟨r, hr⟩⟩
    have t3 : Turn w6 (w6.setCell ⟨d, 6, none⟩ (.int .i64 (s.opened + 1))) ρ5 ρ5 := ⟨hm7.mono fun i _ e => by subst e; exact ⟨_, HD5.out.rd⟩, fun k r hr _ => ⟨r, hr⟩⟩
    exact ⟨rfl, ρ5, ⟨_, _, _, _, _, _, _, _, hD7⟩, t1.trans (HT5.out.trans (t2.trans t3)), HK5.out⟩)
set_option maxRecDepth 20000 in
set_option maxHeartbeats 4000000 in
theorem changeFile_cutG (w0 w : World) (d : Nat) (ρ : Nat → Option Role) (s : St) (h : DK w0 w d ρ s) (ha : s.armed ≠ 0) (ha1 : s.armed ≤ 1000000000) (hs0 : 0 ≤ s.steps) (hs1 : s.steps ≤ 1000000) (ho0 : 0 ≤ s.opened) (ho1 : s.opened ≤ 1000000) (hN : s.N ≤ 100000)
    (b : Nat) (fa : FA) (hφ : s.φ b = some fa) (hn0 : 0 ≤ fa.num) (hn1 : fa.num ≤ 1000000) (hop : fa.opn.length ≤ 1000000) (hl : fa.bytes.length ≤ 1000000)
    (cf cb : Nat) (hcf : Blk w cf #[pv b] 88) (hcb : Blk w cb #[.int .i64 0] 3) (hrf : ρ cf = none) (hrb : ρ cb = none) :
    Calls Tryz.prog 99 #[pv d, pv b, cutV cf cb] w fun e w' => e = .returned .nilIface ∧ ∃ ρ', DK w0 w' d ρ' { (s.withF b ⟨fa.num, [], fa.opn ++ [.other]⟩) with ch := s.ch.put (.int .i64 fa.num) (pd b), N := s.N + 1, opened := s.opened + 1, steps := s.steps + 1, armed := dec s.armed } ∧ Turn w w' ρ ρ' ∧ Keeps ρ ρ' := by
  obtain ⟨bn, bs, bc, vs, vl, Gs, Gl, cs, h⟩ := h
  obtain ⟨i0, hi, hz0, hz1, hz2⟩ := info_parts stepInfo
  have hne := h.ne
  have HD := hide h
  have hnf : cf ≠ d := fun e => by rw [e, h.rd] at hrf; cases hrf
  have hnb : cb ≠ d := fun e => by rw [e, h.rd] at hrb; cases hrb
  clear h
  unfold cutV pv
  go_enter Tryz.func99, Tryz.ntmps99
  go_wp2_with fail
  refine (takeStep_ok _ d _ _ _ _ _ _ _ _ _ _ _ HD.out.blk ha ha1 hs0 (by omega)).mono ?_
  rintro e w1 ⟨rfl, hm1, hk0⟩
  have H1 := hide (HD.out.ints hm1 s.created s.opened (s.steps + 1) (dec s.armed) s.off s.quota hk0)
  have HM1 := hide hm1
  have hcf1 := hide (hm1.blk hcf hnf)
  have hcb1 := hide (hm1.blk hcb hnb)
  clear hk0 hm1 hcf hcb
  obtain ⟨vb, vo, Gb, Go, fs, hF⟩ := H1.out.files b fa hφ
  obtain ⟨Ao, co, rfl⟩ := hF.orow.form
  have HF := hide hF
  have hcF := hF.blk.cell
  have hfF := hF.blk.frozen
  clear hF
  have HDd := hide (H1.out.keep (S := fun _ => False) (Mvs.refl _ w1).drew (fun _ _ _ c => c) (fun _ c => c.elim))
  have HFd := hide (HF.out.at (S := fun _ => False) (Mvs.refl _ w1).drew (fun _ _ _ c => c))
  have HC := hide (cutClo w1.drew ρ b fa vb _ Gb Go fs HFd.out hl cf cb hcf1.out hcb1.out)
  go_wp2_with fail
  unfold pv at HC
  go_region_law (first
    | (refine step_append_rw rfl (.tmp 17) (.tmp 20) 115 115 rfl 120 i0 (.agg #[.bool false, .int .i64 0, .nilFunc]) 3 24 Tryz.underlying115 hi hz0 hz1 hz2 rfl (by simp [Act.eval]) HRO.out _ 1 [.bool x0, .int .i64 m0, .func fn0 fi0 ca0] (by simp [Act.eval]) HSR.out (by simp only [maxLen]; omega) (by omega) ?_
       intro v4 w4 G4 hr4 hm4 hg4
       obtain ⟨A4, c4, rfl⟩ := hr4.form
       have hk4 := hide (hm4.blk ((HB3.out).alloc (.cells #[.bool x0, .int .i64 m0, .func fn0 fi0 ca0] 120)) Hbo.out)
       have hcF4 := hk4.out.cell
       have hfF4 := hk4.out.frozen
       have HR4 := hide hr4
       have HM4 := hide hm4
       have HG4 := hide hg4
       clear hr4 hm4 hg4)
    | (go_simp
       go_at_call 109
       refine HC.out.mono ?_
       rintro e w3 ⟨c0, c1, c2, rfl, hS⟩
       obtain ⟨x0, m0, fn0, fi0, ca0, rfl, rfl, rfl, ⟨vb3, hB3⟩, hbo, hRO, hSR⟩ := HFd.out.facts hS
       have HB3 := hide hB3
       have hcF3 := hB3.cell
       have hfF3 := hB3.frozen
       have hlt3 := hB3.lt
       have HRO := hide hRO
       have HSR := hide hSR
       have Hbo := hide hbo
       have HS := hide hS
       clear hS hB3 hbo hRO hSR))
  all_goals (
    have hD1d := HDd.out
    obtain ⟨ρ5, hD5, hT5, hK5⟩ := hD1d.stepped HFd.out HS.out ((((Mvs.refl (fun k => some k = Go) w3).alloc _)).trans HM4.out) HR4.out (HG4.out.imp id fun e => ⟨_, e, by simp⟩)
    have HT5 := hide hT5
    have HK5 := hide hK5
    clear hD1d hT5 hK5 HC HB3 hcF3 hfF3 hlt3 HRO HSR Hbo HS hk4 hcF4 hfF4 HR4 HM4 HG4 hcF hfF
    generalize w4.setCell ⟨b, 2, none⟩ _ = w5 at *
    have hk5 : Blk w5 d #[.map (some bn), .map (some bs), vs, .map (some bc), vl, .int .i64 s.created, .int .i64 s.opened, .int .i64 (s.steps + 1), (.int .i64 (dec s.armed)), .bool s.off, .int .i64 s.quota] 77 := hD5.blk
    have hc5 := hk5.cell
    obtain ⟨vb5, vo5, Gb5, Go5, fs5, hF5⟩ := hD5.files b _ (show (if b = b then _ else _) = some _ from if_pos rfl)
    have hcf5 := hF5.blk.cell
    obtain ⟨w6, hrun6, hN6, hg6⟩ := (World.ownsMap.drew hD5.chg).update intKeyed Tryz.underlying73 (by show s.N < maxLen; simp only [maxLen]; omega) (keyInt fa.num hn0 (by omega)) (show ptrElem (pv b) = some (pd b, []) from rfl)
    have HD5 := hide hD5
    have HN6 := hide hN6
    have HG6 := hide hg6
    have hk6 := hide ((Mvs.of_grown hg6).blk (x := w5.drew) hk5 (fun e => hne.2.2.1 (Option.some.inj e).symm))
    have hc6 := hk6.out.cell
    have hf6 := hk6.out.frozen
    unfold pv at hrun6
    clear hD5 hN6 hg6 hk5 hF5 hi hz0 hz1 hz2
    go_wp2_with fail
    go_region
    go_wp2
    go_ret
    have hm6 : Mvs (fun k => k = bc) w5.drew w6 := (Mvs.of_grown HG6.out).mono fun _ _ e => Option.some.inj e
    have hD5d := HD5.out.keep (S := fun _ => False) (Mvs.refl _ w5).drew (fun _ _ _ c => c) (fun _ c => c.elim)
    have hD6 := hD5d.chn hm6 _ HN6.out
    have hm7 : Mvs (fun k => k = d) w6 (w6.setCell ⟨d, 6, none⟩ (.int .i64 (s.opened + 1))) := (Mvs.refl (fun k => k = d) w6).setCell ⟨d, 6, none⟩ _ (fun _ => rfl)
    have hD7 := hD6.ints hm7 s.created (s.opened + 1) (s.steps + 1) (dec s.armed) s.off s.quota (hk6.out.set 6 _)
    have t1 : Turn w w1.drew ρ ρ := ⟨(HM1.out.mono fun i _ e => by subst e; exact ⟨_, HD.out.rd⟩).drew, fun k r hr _ => ⟨r, hr⟩⟩
    have t2 : Turn w5 w6 ρ5 ρ5 := ⟨((Mvs.refl _ w5).drew).trans (hm6.mono fun i _ e => by subst e; exact ⟨_, HD5.out.rc⟩), fun k r hr _ => ⟨r, hr⟩⟩
    have t3 : Turn w6 (w6.setCell ⟨d, 6, none⟩ (.int .i64 (s.opened + 1))) ρ5 ρ5 := ⟨hm7.mono fun i _ e => by subst e; exact ⟨_, HD5.out.rd⟩, fun k r hr _ => ⟨r, hr⟩⟩
    exact ⟨rfl, ρ5, ⟨_, _, _, _, _, _, _, _, hD7⟩, t1.trans (HT5.out.trans (t2.trans t3)), HK5.out⟩)
def St.putG (s : St) (b : Nat) (fa : FA) (news : List UInt8) : St := { s.put b fa news with armed := dec s.armed }
def St.cutG (s : St) (b : Nat) (fa : FA) : St := { s.cut b fa with armed := dec s.armed }
def St.syncedG (s : St) : St := { s.synced with armed := dec s.armed }
set_option maxRecDepth 20000 in
set_option maxHeartbeats 4000000 in
theorem append_okG (w0 w : World) (d : Nat) (ρ : Nat → Option Role) (s : St) (h : DK w0 w d ρ s) (hs : s.SmallG) (name : List UInt8) (hr : rightB name = true) (b : Nat) (fa : FA) (hat : s.D.atKey (.string name) .nil = pd b) (hφ : s.φ b = some fa) (hn0 : 0 ≤ fa.num) (hn1 : fa.num ≤ 1000000) (hop : fa.opn.length ≤ 1000000)
    (x : Value) (news : List UInt8) (hx : BR w x news) (hxr : ∀ A n c, x = .slice (some A) n c → ρ A.block = none) (hl : fa.bytes.length + news.length ≤ 1000000000) (hroom : (news.length : Int) ≤ s.quota - usedOf s) :
    Calls Tryz.prog 71 #[pv d, .string ⟨name.toArray⟩, x] w fun e w' => e = .returned .nilIface ∧ ∃ ρ', DK w0 w' d ρ' (s.putG b fa news) ∧ Turn w w' ρ ρ' ∧ Keeps ρ ρ' := by
  obtain ⟨A, c, rfl, hlc, hcm, _⟩ := hx.form
  have hb1 : Below w.heap.size w (w.alloc (.cells #[.slice A news.length c] 25)) := (Below.refl _ _).alloc (Nat.le_refl _) _
  have hb2 : Below w.heap.size w ((w.alloc (.cells #[.slice A news.length c] 25)).alloc (.cells #[pv b] 88)) := hb1.alloc hb1.size _
  have HF := hide (find_there w0 _ d ρ s (h.then hb1) hs.off name hr b hat)
  have HR := hide (hasRoom_any w0 _ d ρ s (h.then hb2) (by have := hs.u; omega) hs.q0 (by have := hs.q1; omega) news.length)
  rw [decide_eq_true hroom] at HR
  have hk1 := Blk.new w #[.slice A news.length c] 25
  have hk2 := hide (hk1.alloc (.cells #[pv b] 88))
  have hk3 := hide (Blk.new1 w (.cells #[.slice A news.length c] 25) #[pv b] 88)
  have HB := hide hb2
  have HH := hide h
  have HX := hide hx
  have hnr : Hid (∀ k, w.heap.size ≤ k → ρ k = none) := by
    obtain ⟨bn, bs, bc, vs, vl, Gs, Gl, cs, h⟩ := h
    exact fun k hk => h.off hk
  clear h hx hb1 hb2 hk1 hroom hlc hcm
  unfold pv at HF HR ⊢
  go_enter Tryz.func71, Tryz.ntmps71
  go_wp2_with (go_at_call 83; refine HF.out.mono ?_; rintro e w' ⟨rfl, rfl⟩)
  refine HR.out.mono ?_
  rintro e w3 ⟨rfl, hb3⟩
  have hsz2 : ((w.alloc (.cells #[.slice A news.length c] 25)).alloc (.cells #[pv b] 88)).heap.size = w.heap.size + 1 + 1 := by simp
  have hb3' : Below w.heap.size w w3 := HB.out.trans (hb3.mono HB.out.size)
  have q2 := hk2.out.below hb3 hk2.out.lt
  have q3 := hk3.out.below hb3 hk3.out.lt
  have hcf := hide q3
  have hcb := hide q2
  have hc1 := q2.cell
  have hc2 := q3.cell
  have HH3 := hide (HH.out.then hb3')
  have HX3 := hide (HX.out.below hb3')
  have HB3 := hide hb3'
  unfold pv at hc2
  clear hb3 hb3' q2 q3 hk2 hk3 HF HR HH HX HB hsz2
  go_wp2_with fail
  refine (changeFile_putG w0 w3 d ρ s HH3.out hs.armed hs.armed1 hs.s0 hs.s1 hs.o0 hs.o1 hs.n b fa hφ hn0 hn1 hop _ news HX3.out hxr hl (w.heap.size + 1) w.heap.size hcf.out hcb.out (hnr.out _ (by omega)) (hnr.out _ (Nat.le_refl _))).mono ?_
  rintro e w4 ⟨rfl, ρ4, hD4, hT4, hK4⟩
  have HD4 := hide hD4
  have HT4 := hide hT4
  have HK4 := hide hK4
  clear hD4 hT4 hK4
  go_wp2
  go_ret
  exact ⟨rfl, ρ4, HD4.out, Turn.trans ⟨Mvs.of_below HB3.out, fun k r hr _ => ⟨r, hr⟩⟩ HT4.out, HK4.out⟩
set_option maxRecDepth 20000 in
set_option maxHeartbeats 4000000 in
theorem truncate0_okG (w0 w : World) (d : Nat) (ρ : Nat → Option Role) (s : St) (h : DK w0 w d ρ s) (hs : s.SmallG) (name : List UInt8) (hr : rightB name = true) (b : Nat) (fa : FA) (hat : s.D.atKey (.string name) .nil = pd b) (hφ : s.φ b = some fa) (hn0 : 0 ≤ fa.num) (hn1 : fa.num ≤ 1000000) (hop : fa.opn.length ≤ 1000000) (hl : fa.bytes.length ≤ 1000000) :
    Calls Tryz.prog 74 #[pv d, .string ⟨name.toArray⟩, .int .i64 0] w fun e w' => e = .returned .nilIface ∧ ∃ ρ', DK w0 w' d ρ' (s.cutG b fa) ∧ Turn w w' ρ ρ' ∧ Keeps ρ ρ' := by
  have hb1 : Below w.heap.size w (w.alloc (.cells #[.int .i64 0] 3)) := (Below.refl _ _).alloc (Nat.le_refl _) _
  have hb2 : Below w.heap.size w ((w.alloc (.cells #[.int .i64 0] 3)).alloc (.cells #[pv b] 88)) := hb1.alloc hb1.size _
  have HF := hide (find_there w0 _ d ρ s (h.then hb1) hs.off name hr b hat)
  have hk1 := Blk.new w #[.int .i64 0] 3
  have hk2 := hide (hk1.alloc (.cells #[pv b] 88))
  have hk3 := hide (Blk.new1 w (.cells #[.int .i64 0] 3) #[pv b] 88)
  have HB := hide hb2
  have HH := hide (h.then hb2)
  have hnr : Hid (∀ k, w.heap.size ≤ k → ρ k = none) := by
    obtain ⟨bn, bs, bc, vs, vl, Gs, Gl, cs, h⟩ := h
    exact fun k hk => h.off hk
  have HS : Hid (Calls Tryz.prog 108 #[pv b, .int .i64 0] ((w.alloc (.cells #[.int .i64 0] 3)).alloc (.cells #[pv b] 88)) fun e w' => e = .returned (.bool true) ∧ w' = (w.alloc (.cells #[.int .i64 0] 3)).alloc (.cells #[pv b] 88)) := by
    obtain ⟨bn, bs, bc, vs, vl, Gs, Gl, cs, hD⟩ := HH.out
    obtain ⟨vb, vo, Gb, Go, fs, hF⟩ := hD.files b fa hφ
    exact has0_any _ ρ b fa vb vo Gb Go fs hF
  clear h hb1 hb2 hk1
  unfold pv at HF HS ⊢
  go_enter Tryz.func74, Tryz.ntmps74
  go_wp2_with (first | (go_at_call 83; refine HF.out.mono ?_; rintro e w' ⟨rfl, rfl⟩) | (go_at_call 108; refine HS.out.mono ?_; rintro e w' ⟨rfl, rfl⟩))
  refine (changeFile_cutG w0 _ d ρ s HH.out hs.armed hs.armed1 hs.s0 hs.s1 hs.o0 hs.o1 hs.n b fa hφ hn0 hn1 hop hl (w.heap.size + 1) w.heap.size hk3.out hk2.out (hnr.out _ (by omega)) (hnr.out _ (Nat.le_refl _))).mono ?_
  rintro e w4 ⟨rfl, ρ4, hD4, hT4, hK4⟩
  have HD4 := hide hD4
  have HT4 := hide hT4
  have HK4 := hide hK4
  clear hD4 hT4 hK4
  go_wp2
  go_ret
  exact ⟨rfl, ρ4, HD4.out, Turn.trans ⟨Mvs.of_below HB.out, fun k r hr _ => ⟨r, hr⟩⟩ HT4.out, HK4.out⟩
set_option maxRecDepth 20000 in
set_option maxHeartbeats 2000000 in
/-- SyncDir, where no file has open steps. -/
theorem syncDir_okG (w0 w : World) (d : Nat) (ρ : Nat → Option Role) (s : St) (h : DK w0 w d ρ s) (hs : s.SmallG) (ho : (s.ns : Int) ≤ s.opened) (hch : s.ch = .map []) :
    Calls Tryz.prog 39 #[pv d] w fun e w' => e = .returned .nilIface ∧ ∃ ρ', DK w0 w' d ρ' s.syncedG ∧ Turn w w' ρ ρ' := by
  obtain ⟨bn, bs, bc, vs, vl, Gs, Gl, cs, h⟩ := h
  have hc := h.blk.cell
  rw [hs.off] at hc
  have HD := hide h
  clear h
  unfold pv
  go_enter Tryz.func39, Tryz.ntmps39
  go_wp2_with fail
  refine (takeStep_ok _ d _ _ _ _ _ _ _ _ _ _ _ HD.out.blk hs.armed hs.armed1 hs.s0 (by have := hs.s1; omega)).mono ?_
  rintro e w1 ⟨rfl, hm1, hk0⟩
  have H1 := hide (HD.out.ints hm1 s.created s.opened (s.steps + 1) (dec s.armed) s.off s.quota hk0)
  have HM1 := hide hm1
  obtain ⟨As, cc, rfl⟩ := H1.out.row.form
  clear hk0 hm1 hc
  go_wp2_with fail
  refine (makeSure_raw w1 d bn s.N s.D _ _ _ _ _ _ _ _ As s.ns cc s.opened H1.out.blk H1.out.names ho (by have := hs.o1; omega)).mono ?_
  rintro e w2 ⟨rfl, hm2, hk2, ho2, hlt2⟩
  obtain ⟨hD2, hK2⟩ := H1.out.resure hm2 w1.heap.size (Nat.le_refl _) hlt2 ho2 (s.opened - s.ns) hk2
  have HD2 := hide hD2
  have HM2 := hide hm2
  clear hm2 ho2 hlt2 hk2 hK2 hD2
  go_wp2_with fail
  refine (loseNameless_none w2 d bc s.N _ _ _ _ _ _ _ _ _ _ HD2.out.blk (by have := HD2.out.chg; rw [← hch]; exact this)).mono ?_
  rintro e w3 ⟨rfl, hb3⟩
  have HB3 := hide hb3
  clear hb3
  go_wp2
  go_ret
  have hD3 := HD2.out.keep (S := fun _ => False) (Mvs.of_below HB3.out) (fun _ _ _ c => c) (fun _ c => c.elim)
  refine ⟨rfl, _, ⟨_, _, _, _, _, _, _, _, hD3⟩, ⟨?_, fun k r hr hlt => ?_⟩⟩
  · exact ((HM1.out.trans HM2.out).mono fun i _ e => by subst e; exact ⟨_, HD.out.rd⟩).then HB3.out
  · rcases putRole_cases hr with e | e
    · cases e
      have := HM1.out.size
      omega
    · exact ⟨r, e⟩
end Go.Proofs.YtcbkmcagnmpifaaGreatDoor

end
section
namespace Go.Proofs.YtcbkmcagnmpifaaGreatDoor
open Go.RowKit Go.Maps
/-- The state behind the power's going. -/
def St.gone (s : St) : St := { s with off := true }
section
variable (w0 w : World) (d : Nat) (ρ : Nat → Option Role) (s : St)
theorem DK.gone_set {w0 w : World} {d : Nat} {ρ : Nat → Option Role} {s : St} (h : DK w0 w d ρ s) : DK w0 (w.setCell ⟨d, 9, none⟩ (.bool true)) d ρ s.gone ∧ Turn w (w.setCell ⟨d, 9, none⟩ (.bool true)) ρ ρ := by
  obtain ⟨bn, bs, bc, vs, vl, Gs, Gl, cs, h⟩ := h
  have hm : Mvs (fun k => k = d) w (w.setCell ⟨d, 9, none⟩ (.bool true)) := (Mvs.refl (fun k => k = d) w).setCell ⟨d, 9, none⟩ _ (fun _ => rfl)
  exact ⟨⟨_, _, _, _, _, _, _, _, h.ints hm s.created s.opened s.steps s.armed true s.quota (h.blk.set 9 _)⟩, hm.mono fun k _ e => by subst e; exact ⟨_, h.rd⟩, fun k r hr _ => ⟨r, hr⟩⟩
theorem step_gone (a : Nat → Addr) (hE : Errs w0 a) (h : DK w0 w d ρ s) (ha : s.armed = 0) :
    Calls Tryz.prog 60 #[pv d] w fun e w' => e = .returned (errV a 7) ∧ w' = w.setCell ⟨d, 9, none⟩ (.bool true) := by
  have hce : w.cell? ⟨7, 0, none⟩ = some (errV a 7) := (hE.below h.below).cell 7 (by decide)
  have hlo : 7 < w0.heap.size := hE.low 7 (by decide)
  obtain ⟨bn, bs, bc, vs, vl, Gs, Gl, cs, h⟩ := h
  have hd := (h.low d _ h.rd).1
  have hk := h.blk
  rw [ha] at hk
  exact takeStep_gone w d _ _ _ _ _ _ _ _ _ _ hk a hce (by omega) (by omega)
set_option maxHeartbeats 1000000 in
theorem changeNames_gone (a : Nat → Addr) (hE : Errs w0 a) (h : DK w0 w d ρ s) (ha : s.armed = 0) (v : Value) :
    Calls Tryz.prog 87 #[pv d, v] w fun e w' => e = .returned (errV a 7) ∧ w' = w.setCell ⟨d, 9, none⟩ (.bool true) := by
  have HS := hide (step_gone w0 w d ρ s a hE h ha)
  clear h hE
  unfold pv errV at *
  go_enter Tryz.func87, Tryz.ntmps87
  go_wp2_with fail
  refine HS.out.mono ?_
  rintro e w1 ⟨rfl, hw1⟩
  replace hw1 := hide hw1
  go_wp2
  go_ret
  exact ⟨rfl, hw1.out⟩
set_option maxHeartbeats 1000000 in
theorem changeFile_gone (a : Nat → Addr) (hE : Errs w0 a) (h : DK w0 w d ρ s) (ha : s.armed = 0) (v x : Value) :
    Calls Tryz.prog 99 #[pv d, v, x] w fun e w' => e = .returned (errV a 7) ∧ w' = w.setCell ⟨d, 9, none⟩ (.bool true) := by
  have HS := hide (step_gone w0 w d ρ s a hE h ha)
  clear h hE
  unfold pv errV at *
  go_enter Tryz.func99, Tryz.ntmps99
  go_wp2_with fail
  refine HS.out.mono ?_
  rintro e w1 ⟨rfl, hw1⟩
  replace hw1 := hide hw1
  go_wp2
  go_ret
  exact ⟨rfl, hw1.out⟩
set_option maxRecDepth 8000 in
set_option maxHeartbeats 1000000 in
theorem sync_gone (a : Nat → Addr) (hE : Errs w0 a) (h : DK w0 w d ρ s) (hoff : s.off = false) (ha : s.armed = 0) (name : List UInt8) (hr : rightB name = true) (b : Nat) (hat : s.D.atKey (.string name) .nil = pd b) :
    Calls Tryz.prog 72 #[pv d, .string ⟨name.toArray⟩] w fun e w' => e = .returned (errV a 7) ∧ DK w0 w' d ρ s.gone ∧ Turn w w' ρ ρ := by
  have HF := hide (find_there w0 w d ρ s h hoff name hr b hat)
  have HS := hide (step_gone w0 w d ρ s a hE h ha)
  have HG := hide h.gone_set
  clear h hE hat
  unfold pv errV at *
  go_enter Tryz.func72, Tryz.ntmps72
  go_wp2_with (go_at_call 83; refine HF.out.mono ?_; rintro e w ⟨rfl, rfl⟩)
  refine HS.out.mono ?_
  rintro e w1 ⟨rfl, hw1⟩
  replace hw1 := hide hw1
  go_wp2
  go_ret
  refine ⟨rfl, ?_⟩
  rw [hw1.out]
  exact HG.out
set_option maxRecDepth 8000 in
set_option maxHeartbeats 1000000 in
theorem syncDir_gone (a : Nat → Addr) (hE : Errs w0 a) (h : DK w0 w d ρ s) (hoff : s.off = false) (ha : s.armed = 0) :
    Calls Tryz.prog 39 #[pv d] w fun e w' => e = .returned (errV a 7) ∧ DK w0 w' d ρ s.gone ∧ Turn w w' ρ ρ := by
  have HS := hide (step_gone w0 w d ρ s a hE h ha)
  have HG := hide h.gone_set
  obtain ⟨bn, bs, bc, vs, vl, Gs, Gl, cs, h⟩ := h
  have hc := h.blk.cell
  rw [hoff] at hc
  clear h hE
  unfold pv errV at *
  go_enter Tryz.func39, Tryz.ntmps39
  go_wp2_with fail
  refine HS.out.mono ?_
  rintro e w1 ⟨rfl, hw1⟩
  replace hw1 := hide hw1
  clear hc
  go_wp2
  go_ret
  refine ⟨rfl, ?_⟩
  rw [hw1.out]
  exact HG.out
set_option maxRecDepth 20000 in
set_option maxHeartbeats 2000000 in
theorem create_gone (a : Nat → Addr) (hE : Errs w0 a) (h : DK w0 w d ρ s) (hoff : s.off = false) (ha : s.armed = 0) (hN : s.N ≤ 60) (name : List UInt8) (hr : rightB name = true) (hf : s.D.atKey (.string name) .nil = .nil) :
    Calls Tryz.prog 59 #[pv d, .string ⟨name.toArray⟩] w fun e w' => e = .returned (errV a 7) ∧ DK w0 w' d ρ s.gone ∧ Turn w w' ρ ρ := by
  have hb1 : Below w.heap.size w (w.alloc (.cells #[.string ⟨name.toArray⟩] 9)) := (Below.refl _ _).alloc (Nat.le_refl _) _
  have HF := hide (find_none w0 _ d ρ s a hE (h.then hb1) hoff name hr hf)
  have hE1 := hE.below (h.then hb1).below
  have HC := hide hb1
  have HH := hide (h.then hb1)
  have hg : Hid (∀ m, (World.drewN (w.alloc (.cells #[.string ⟨name.toArray⟩] 9)) m).cell? ⟨4, 0, none⟩ = some (errV a 4)) := fun m => hE1.cell 4 (by decide)
  have hes := err_same
  have HE := hide hE
  clear h hE hE1 hb1 hf
  unfold pv errV at *
  go_enter Tryz.func59, Tryz.ntmps59
  go_wp2_with fail
  refine HF.out.mono ?_
  rintro e w1 ⟨rfl, m, rfl⟩
  have hg1 := hg.out m
  have hb2 := hide (HC.out.trans ((below_drewN _ m).mono HC.out.size))
  have HH2 := hide (HH.out.drewN m)
  clear HF hg HC HH
  generalize World.drewN _ m = W at *
  obtain ⟨bn, bs, bc, vs, vl, Gs, Gl, cs, hD⟩ := HH2.out
  have hc := hD.blk.cell
  have hlen := hD.names.len Tryz.underlying72
  have hle : ((Maps.size s.D : Nat) : Int) ≤ 60 := by have := hD.names.size_le; omega
  clear hD
  go_wp2_with fail
  obtain ⟨W2, hW2⟩ : ∃ W2, W2 = (W.alloc (.cells #[.int .i64 s.created, .slice none 0 0, .slice none 0 0] 117)).alloc (.cells #[.pointer (some ⟨W.heap.size, 0, none⟩)] 88) := ⟨_, rfl⟩
  rw [← hW2]
  have hbW : Below W.heap.size W W2 := by rw [hW2]; exact ((Below.refl _ _).alloc (Nat.le_refl _) _).alloc (by simp) _
  have hD2 := HH2.out.then hbW
  refine (changeNames_gone w0 W2 d ρ s a HE.out hD2 ha _).mono ?_
  rintro e w3 ⟨rfl, hw3⟩
  have hG3 := hD2.gone_set
  rw [← hw3] at hG3
  have HG := hide hG3
  have HB := hide (hb2.out.trans (hbW.mono hb2.out.size))
  unfold errV
  clear hc hlen hle hg1 hD2 hbW hW2 hw3 hG3
  go_wp2
  go_ret
  exact ⟨rfl, HG.out.1, Turn.trans ⟨Mvs.of_below HB.out, fun k r hr _ => ⟨r, hr⟩⟩ HG.out.2⟩
end
end Go.Proofs.YtcbkmcagnmpifaaGreatDoor

end
