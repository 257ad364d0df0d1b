/- A disk: changeFile, with the step of a Truncate to nothing. -/
/- A disk: Append. -/
/- A disk: SyncDir. -/
import Derived.Test.YthhnlkbjpahjeaaGreatDoorU07
import Derived.Shelf.SlMaps.Clone
section
namespace Go.Proofs.YthhnlkbjpahjeaaGreatDoor
open Go.RowKit Go.Maps
set_option maxRecDepth 20000 in
set_option maxHeartbeats 4000000 in
theorem changeFile_cut (w0 w : World) (d : Nat) (ρ : Nat → Option Role) (s : St) (h : DK w0 w d ρ s) (ha : s.armed < 0) (hs0 : 0 ≤ s.steps) (hs1 : s.steps ≤ 1000000) (ho0 : 0 ≤ s.opened) (ho1 : s.opened ≤ 1000000) (hN : s.N ≤ 100000)
    (b : Nat) (fa : FA) (hφ : s.φ b = some fa) (hn0 : 0 ≤ fa.num) (hn1 : fa.num ≤ 1000000) (hop : fa.opn.length ≤ 1000000) (hl : fa.bytes.length ≤ 1000000) (n : Nat) (hn : n ≤ fa.bytes.length)
    (cf cb : Nat) (hcf : Blk w cf #[pv b] 72) (hcb : Blk w cb #[.int .i64 n] 3) (hrf : ρ cf = none) (hrb : ρ cb = none) :
    Calls Tryz.prog 81 #[pv d, pv b, cutV cf cb] w fun e w' => e = .returned .nilIface ∧ ∃ ρ', DK w0 w' d ρ' { (s.withF b ⟨fa.num, fa.bytes.take n, fa.opn ++ [.cut (fa.bytes.drop n)]⟩) with ch := s.ch.put (.int .i64 fa.num) (pd b), N := s.N + 1, opened := s.opened + 1, steps := s.steps + 1 } ∧ Turn w w' ρ ρ' ∧ Keeps ρ ρ' := by
  obtain ⟨bn, bs, bc, vs, vl, Gs, Gl, cs, h⟩ := h
  obtain ⟨i0, hi, hz0, hz1, hz2⟩ := info_parts stepInfo
  have hne := h.ne
  have HD := hide h
  have hnf : cf ≠ d := fun e => by rw [e, h.rd] at hrf; cases hrf
  have hnb : cb ≠ d := fun e => by rw [e, h.rd] at hrb; cases hrb
  clear h
  unfold cutV pv
  go_enter Tryz.func81, Tryz.ntmps81
  go_wp2_with fail
  refine (takeStep_free _ d _ _ _ _ _ _ _ _ _ _ _ HD.out.blk ha hs0 (by omega)).mono ?_
  rintro e w1 ⟨rfl, hw1⟩
  have hm1 : Mvs (fun k => k = d) w w1 := by rw [hw1]; exact (Mvs.refl _ _).setCell _ _ (fun _ => rfl)
  have H1 := hide (HD.out.ints hm1 s.created s.opened (s.steps + 1) s.armed s.off s.quota (by rw [hw1]; exact HD.out.blk.set 7 _))
  have HM1 := hide hm1
  have hcf1 := hide (hm1.blk hcf hnf)
  have hcb1 := hide (hm1.blk hcb hnb)
  clear hw1 hm1 hcf hcb
  obtain ⟨vb, vo, Gb, Go, fs, hF⟩ := H1.out.files b fa hφ
  obtain ⟨Ao, co, rfl⟩ := hF.orow.form
  have HF := hide hF
  have hcF := hF.blk.cell
  have hfF := hF.blk.frozen
  clear hF
  have HDd := hide (H1.out.keep (S := fun _ => False) (Mvs.refl _ w1).drew (fun _ _ _ c => c) (fun _ c => c.elim))
  have HFd := hide (HF.out.at (S := fun _ => False) (Mvs.refl _ w1).drew (fun _ _ _ c => c))
  have HC := hide (cutClo w1.drew ρ b fa vb _ Gb Go fs HFd.out hl n hn cf cb hcf1.out hcb1.out)
  go_wp2_with fail
  unfold pv at HC
  go_region_law (first
    | (refine step_append_rw rfl (.tmp 17) (.tmp 20) 98 98 rfl 104 i0 (.agg #[.bool false, .int .i64 0, .nilFunc]) 3 24 Tryz.underlying98 hi hz0 hz1 hz2 rfl (by simp [Act.eval]) HRO.out _ 1 [.bool x0, .int .i64 m0, .func fn0 fi0 ca0] (by simp [Act.eval]) HSR.out (by simp only [maxLen]; omega) (by omega) ?_
       intro v4 w4 G4 hr4 hm4 hg4
       obtain ⟨A4, c4, rfl⟩ := hr4.form
       have hk4 := hide (hm4.blk ((HB3.out).alloc (.cells #[.bool x0, .int .i64 m0, .func fn0 fi0 ca0] 104)) Hbo.out)
       have hcF4 := hk4.out.cell
       have hfF4 := hk4.out.frozen
       have HR4 := hide hr4
       have HM4 := hide hm4
       have HG4 := hide hg4
       clear hr4 hm4 hg4)
    | (go_simp
       go_at_call 91
       refine HC.out.mono ?_
       rintro e w3 ⟨c0, c1, c2, rfl, hS⟩
       obtain ⟨x0, m0, fn0, fi0, ca0, rfl, rfl, rfl, ⟨vb3, hB3⟩, hbo, hRO, hSR⟩ := HFd.out.facts hS
       have HB3 := hide hB3
       have hcF3 := hB3.cell
       have hfF3 := hB3.frozen
       have hlt3 := hB3.lt
       have HRO := hide hRO
       have HSR := hide hSR
       have Hbo := hide hbo
       have HS := hide hS
       clear hS hB3 hbo hRO hSR))
  all_goals (
    have hD1d := HDd.out
    obtain ⟨ρ5, hD5, hT5, hK5⟩ := hD1d.stepped HFd.out HS.out ((((Mvs.refl (fun k => some k = Go) w3).alloc _)).trans HM4.out) HR4.out (HG4.out.imp id fun e => ⟨_, e, by simp⟩)
    have HT5 := hide hT5
    have HK5 := hide hK5
    clear hD1d hT5 hK5 HC HB3 hcF3 hfF3 hlt3 HRO HSR Hbo HS hk4 hcF4 hfF4 HR4 HM4 HG4 hcF hfF
    generalize w4.setCell ⟨b, 2, none⟩ _ = w5 at *
    have hk5 : Blk w5 d #[.map (some bn), .map (some bs), vs, .map (some bc), vl, .int .i64 s.created, .int .i64 s.opened, .int .i64 (s.steps + 1), .int .i64 s.armed, .bool s.off, .int .i64 s.quota] 56 := hD5.blk
    have hc5 := hk5.cell
    obtain ⟨vb5, vo5, Gb5, Go5, fs5, hF5⟩ := hD5.files b _ (show (if b = b then _ else _) = some _ from if_pos rfl)
    have hcf5 := hF5.blk.cell
    obtain ⟨w6, hrun6, hN6, hg6⟩ := (World.ownsMap.drew hD5.chg).update intKeyed Tryz.underlying52 (by show s.N < maxLen; simp only [maxLen]; omega) (keyInt fa.num hn0 (by omega)) (show ptrElem (pv b) = some (pd b, []) from rfl)
    have HD5 := hide hD5
    have HN6 := hide hN6
    have HG6 := hide hg6
    have hk6 := hide ((Mvs.of_grown hg6).blk (x := w5.drew) hk5 (fun e => hne.2.2.1 (Option.some.inj e).symm))
    have hc6 := hk6.out.cell
    have hf6 := hk6.out.frozen
    unfold pv at hrun6
    clear hD5 hN6 hg6 hk5 hF5 hi hz0 hz1 hz2
    go_wp2_with fail
    go_region
    go_wp2
    go_ret
    have hm6 : Mvs (fun k => k = bc) w5.drew w6 := (Mvs.of_grown HG6.out).mono fun _ _ e => Option.some.inj e
    have hD5d := HD5.out.keep (S := fun _ => False) (Mvs.refl _ w5).drew (fun _ _ _ c => c) (fun _ c => c.elim)
    have hD6 := hD5d.chn hm6 _ HN6.out
    have hm7 : Mvs (fun k => k = d) w6 (w6.setCell ⟨d, 6, none⟩ (.int .i64 (s.opened + 1))) := (Mvs.refl (fun k => k = d) w6).setCell ⟨d, 6, none⟩ _ (fun _ => rfl)
    have hD7 := hD6.ints hm7 s.created (s.opened + 1) (s.steps + 1) s.armed s.off s.quota (hk6.out.set 6 _)
    have t1 : Turn w w1.drew ρ ρ := ⟨(HM1.out.mono fun i _ e => by subst e; exact ⟨_, HD.out.rd⟩).drew, fun k r hr _ => ⟨r, hr⟩⟩
    have t2 : Turn w5 w6 ρ5 ρ5 := ⟨((Mvs.refl _ w5).drew).trans (hm6.mono fun i _ e => by subst e; exact ⟨_, HD5.out.rc⟩), fun k r hr _ => ⟨r, hr⟩⟩
    have t3 : Turn w6 (w6.setCell ⟨d, 6, none⟩ (.int .i64 (s.opened + 1))) ρ5 ρ5 := ⟨hm7.mono fun i _ e => by subst e; exact ⟨_, HD5.out.rd⟩, fun k r hr _ => ⟨r, hr⟩⟩
    exact ⟨rfl, ρ5, ⟨_, _, _, _, _, _, _, _, hD7⟩, t1.trans (HT5.out.trans (t2.trans t3)), HK5.out⟩)
end Go.Proofs.YthhnlkbjpahjeaaGreatDoor

end
section
namespace Go.Proofs.YthhnlkbjpahjeaaGreatDoor
open Go.RowKit Go.Maps
def St.put (s : St) (b : Nat) (fa : FA) (news : List UInt8) : St := { (s.withF b ⟨fa.num, fa.bytes ++ news, fa.opn ++ [.put fa.bytes.length news.length]⟩) with ch := s.ch.put (.int .i64 fa.num) (pd b), N := s.N + 1, opened := s.opened + 1, steps := s.steps + 1 }
def St.cut (s : St) (b : Nat) (fa : FA) : St := { (s.withF b ⟨fa.num, [], fa.opn ++ [.cut fa.bytes]⟩) with ch := s.ch.put (.int .i64 fa.num) (pd b), N := s.N + 1, opened := s.opened + 1, steps := s.steps + 1 }
/-- Numbers that are small. -/
structure St.Small (s : St) : Prop where
  armed : s.armed < 0
  s0 : 0 ≤ s.steps
  s1 : s.steps ≤ 1000000
  o0 : 0 ≤ s.opened
  o1 : s.opened ≤ 1000000
  n : s.N ≤ 100000
  off : s.off = false
  q0 : 0 ≤ s.quota
  q1 : s.quota ≤ 1000000
  u : usedOf s ≤ 1000000
section
variable (w0 w : World) (d : Nat) (ρ : Nat → Option Role) (s : St)
set_option maxRecDepth 20000 in
set_option maxHeartbeats 4000000 in
theorem append_ok (h : DK w0 w d ρ s) (hs : s.Small) (name : List UInt8) (hr : rightB name = true) (b : Nat) (fa : FA) (hat : s.D.atKey (.string name) .nil = pd b) (hφ : s.φ b = some fa) (hn0 : 0 ≤ fa.num) (hn1 : fa.num ≤ 1000000) (hop : fa.opn.length ≤ 1000000)
    (x : Value) (news : List UInt8) (hx : BR w x news) (hxr : ∀ A n c, x = .slice (some A) n c → ρ A.block = none) (hl : fa.bytes.length + news.length ≤ 1000000000) (hroom : (news.length : Int) ≤ s.quota - usedOf s) :
    Calls Tryz.prog 49 #[pv d, .string ⟨name.toArray⟩, x] w fun e w' => e = .returned .nilIface ∧ ∃ ρ', DK w0 w' d ρ' (s.put b fa news) ∧ Turn w w' ρ ρ' ∧ Keeps ρ ρ' := by
  obtain ⟨A, c, rfl, hlc, hcm, _⟩ := hx.form
  have hb1 : Below w.heap.size w (w.alloc (.cells #[.slice A news.length c] 46)) := (Below.refl _ _).alloc (Nat.le_refl _) _
  have hb2 : Below w.heap.size w ((w.alloc (.cells #[.slice A news.length c] 46)).alloc (.cells #[pv b] 72)) := hb1.alloc hb1.size _
  have HF := hide (find_there w0 _ d ρ s (h.then hb1) hs.off name hr b hat)
  have HR := hide (hasRoom_any w0 _ d ρ s (h.then hb2) (by have := hs.u; omega) hs.q0 (by have := hs.q1; omega) news.length)
  rw [decide_eq_true hroom] at HR
  have hk1 := Blk.new w #[.slice A news.length c] 46
  have hk2 := hide (hk1.alloc (.cells #[pv b] 72))
  have hk3 := hide (Blk.new1 w (.cells #[.slice A news.length c] 46) #[pv b] 72)
  have HB := hide hb2
  have HH := hide h
  have HX := hide hx
  have hnr : Hid (∀ k, w.heap.size ≤ k → ρ k = none) := by
    obtain ⟨bn, bs, bc, vs, vl, Gs, Gl, cs, h⟩ := h
    exact fun k hk => h.off hk
  clear h hx hb1 hb2 hk1 hroom hlc hcm
  unfold pv at HF HR ⊢
  go_enter Tryz.func49, Tryz.ntmps49
  go_wp2_with (go_at_call 63; refine HF.out.mono ?_; rintro e w' ⟨rfl, rfl⟩)
  refine HR.out.mono ?_
  rintro e w3 ⟨rfl, hb3⟩
  have hsz2 : ((w.alloc (.cells #[.slice A news.length c] 46)).alloc (.cells #[pv b] 72)).heap.size = w.heap.size + 1 + 1 := by simp
  have hb3' : Below w.heap.size w w3 := HB.out.trans (hb3.mono HB.out.size)
  have q2 := hk2.out.below hb3 hk2.out.lt
  have q3 := hk3.out.below hb3 hk3.out.lt
  have hcf := hide q3
  have hcb := hide q2
  have hc1 := q2.cell
  have hc2 := q3.cell
  have HH3 := hide (HH.out.then hb3')
  have HX3 := hide (HX.out.below hb3')
  have HB3 := hide hb3'
  unfold pv at hc2
  clear hb3 hb3' q2 q3 hk2 hk3 HF HR HH HX HB hsz2
  go_wp2_with fail
  refine (changeFile_put w0 w3 d ρ s HH3.out hs.armed hs.s0 hs.s1 hs.o0 hs.o1 hs.n b fa hφ hn0 hn1 hop _ news HX3.out hxr hl (w.heap.size + 1) w.heap.size hcf.out hcb.out (hnr.out _ (by omega)) (hnr.out _ (Nat.le_refl _))).mono ?_
  rintro e w4 ⟨rfl, ρ4, hD4, hT4, hK4⟩
  have HD4 := hide hD4
  have HT4 := hide hT4
  have HK4 := hide hK4
  clear hD4 hT4 hK4
  go_wp2
  go_ret
  exact ⟨rfl, ρ4, HD4.out, Turn.trans ⟨Mvs.of_below HB3.out, fun k r hr _ => ⟨r, hr⟩⟩ HT4.out, HK4.out⟩
set_option maxRecDepth 20000 in
set_option maxHeartbeats 4000000 in
theorem append_full (a : Nat → Addr) (hE : Errs w0 a) (h : DK w0 w d ρ s) (hs : s.Small) (name : List UInt8) (hr : rightB name = true) (b : Nat) (hat : s.D.atKey (.string name) .nil = pd b)
    (x : Value) (news : List UInt8) (hx : BR w x news) (hroom : ¬ (news.length : Int) ≤ s.quota - usedOf s) :
    Calls Tryz.prog 49 #[pv d, .string ⟨name.toArray⟩, x] w fun e w' => e = .returned (errV a 6) ∧ Below w.heap.size w w' := by
  obtain ⟨A, c, rfl, hlc, hcm, _⟩ := hx.form
  have hb1 : Below w.heap.size w (w.alloc (.cells #[.slice A news.length c] 46)) := (Below.refl _ _).alloc (Nat.le_refl _) _
  have hb2 : Below w.heap.size w ((w.alloc (.cells #[.slice A news.length c] 46)).alloc (.cells #[pv b] 72)) := hb1.alloc hb1.size _
  have HF := hide (find_there w0 _ d ρ s (h.then hb1) hs.off name hr b hat)
  have HR := hide (hasRoom_any w0 _ d ρ s (h.then hb2) (by have := hs.u; omega) hs.q0 (by have := hs.q1; omega) news.length)
  rw [decide_eq_false hroom] at HR
  have HB := hide hb2
  have HE := hide (fun (w' : World) (hb : Below w.heap.size w w') => ((hE.below h.below).below hb).cell 6 (by decide))
  clear h hx hb1 hb2 hroom hlc hcm hE
  unfold pv at HF HR ⊢
  go_enter Tryz.func49, Tryz.ntmps49
  go_wp2_with (go_at_call 63; refine HF.out.mono ?_; rintro e w' ⟨rfl, rfl⟩)
  refine HR.out.mono ?_
  rintro e w3 ⟨rfl, hb3⟩
  have hb3' : Below w.heap.size w w3 := HB.out.trans (hb3.mono HB.out.size)
  have hg : w3.cell? ⟨8, 0, none⟩ = some (errV a 6) := HE.out w3 hb3'
  have HB3 := hide hb3'
  unfold errV at *
  clear hb3 hb3' HF HR HB
  go_wp2
  go_ret
  exact ⟨rfl, HB3.out⟩
set_option maxHeartbeats 1000000 in
theorem has_any (b : Nat) (fa : FA) (vb vo : Value) (Gb Go : Option Nat) (cs : List Value) (h : FileRs w ρ b fa vb vo Gb Go cs) (n : Nat) (hn : n ≤ fa.bytes.length) : Calls Tryz.prog 90 #[pv b, .int .i64 n] w fun e w' => e = .returned (.bool true) ∧ w' = w := by
  obtain ⟨A, c, rfl⟩ := h.row.form
  have hc := h.blk.cell
  have h0 : (0 : Int) ≤ (n : Int) := by omega
  have h1 : (n : Int) ≤ (fa.bytes.length : Int) := by omega
  clear h
  unfold pv
  go_enter Tryz.func90, Tryz.ntmps90
  go_wp2
  go_ret
  exact ⟨by simp, rfl⟩
theorem has0_any (b : Nat) (fa : FA) (vb vo : Value) (Gb Go : Option Nat) (cs : List Value) (h : FileRs w ρ b fa vb vo Gb Go cs) : Calls Tryz.prog 90 #[pv b, .int .i64 0] w fun e w' => e = .returned (.bool true) ∧ w' = w := has_any w ρ b fa vb vo Gb Go cs h 0 (Nat.zero_le _)
set_option maxRecDepth 20000 in
set_option maxHeartbeats 4000000 in
theorem truncate0_ok (h : DK w0 w d ρ s) (hs : s.Small) (name : List UInt8) (hr : rightB name = true) (b : Nat) (fa : FA) (hat : s.D.atKey (.string name) .nil = pd b) (hφ : s.φ b = some fa) (hn0 : 0 ≤ fa.num) (hn1 : fa.num ≤ 1000000) (hop : fa.opn.length ≤ 1000000) (hl : fa.bytes.length ≤ 1000000) :
    Calls Tryz.prog 52 #[pv d, .string ⟨name.toArray⟩, .int .i64 0] w fun e w' => e = .returned .nilIface ∧ ∃ ρ', DK w0 w' d ρ' (s.cut b fa) ∧ Turn w w' ρ ρ' ∧ Keeps ρ ρ' := by
  have hb1 : Below w.heap.size w (w.alloc (.cells #[.int .i64 0] 3)) := (Below.refl _ _).alloc (Nat.le_refl _) _
  have hb2 : Below w.heap.size w ((w.alloc (.cells #[.int .i64 0] 3)).alloc (.cells #[pv b] 72)) := hb1.alloc hb1.size _
  have HF := hide (find_there w0 _ d ρ s (h.then hb1) hs.off name hr b hat)
  have hk1 := Blk.new w #[.int .i64 0] 3
  have hk2 := hide (hk1.alloc (.cells #[pv b] 72))
  have hk3 := hide (Blk.new1 w (.cells #[.int .i64 0] 3) #[pv b] 72)
  have HB := hide hb2
  have HH := hide (h.then hb2)
  have hnr : Hid (∀ k, w.heap.size ≤ k → ρ k = none) := by
    obtain ⟨bn, bs, bc, vs, vl, Gs, Gl, cs, h⟩ := h
    exact fun k hk => h.off hk
  have HS : Hid (Calls Tryz.prog 90 #[pv b, .int .i64 0] ((w.alloc (.cells #[.int .i64 0] 3)).alloc (.cells #[pv b] 72)) fun e w' => e = .returned (.bool true) ∧ w' = (w.alloc (.cells #[.int .i64 0] 3)).alloc (.cells #[pv b] 72)) := by
    obtain ⟨bn, bs, bc, vs, vl, Gs, Gl, cs, hD⟩ := HH.out
    obtain ⟨vb, vo, Gb, Go, fs, hF⟩ := hD.files b fa hφ
    exact has0_any _ ρ b fa vb vo Gb Go fs hF
  clear h hb1 hb2 hk1
  unfold pv at HF HS ⊢
  go_enter Tryz.func52, Tryz.ntmps52
  go_wp2_with (first | (go_at_call 63; refine HF.out.mono ?_; rintro e w' ⟨rfl, rfl⟩) | (go_at_call 90; refine HS.out.mono ?_; rintro e w' ⟨rfl, rfl⟩))
  refine (changeFile_cut w0 _ d ρ s HH.out hs.armed hs.s0 hs.s1 hs.o0 hs.o1 hs.n b fa hφ hn0 hn1 hop hl 0 (Nat.zero_le _) (w.heap.size + 1) w.heap.size hk3.out hk2.out (hnr.out _ (by omega)) (hnr.out _ (Nat.le_refl _))).mono ?_
  rintro e w4 ⟨rfl, ρ4, hD4, hT4, hK4⟩
  have HD4 := hide hD4
  have HT4 := hide hT4
  have HK4 := hide hK4
  clear hD4 hT4 hK4
  go_wp2
  go_ret
  exact ⟨rfl, ρ4, HD4.out, Turn.trans ⟨Mvs.of_below HB.out, fun k r hr _ => ⟨r, hr⟩⟩ HT4.out, HK4.out⟩
end
end Go.Proofs.YthhnlkbjpahjeaaGreatDoor

end
section
namespace Go.Proofs.YthhnlkbjpahjeaaGreatDoor
open Go.RowKit Go.Maps
set_option maxRecDepth 20000 in
set_option maxHeartbeats 2000000 in
theorem cloneMap_any (w : World) (b n : Nat) (D : DataW Unit) (h : w.ownsMap Tryz.prog 9 ptrElem b n D) :
    Calls Tryz.prog 68 #[.map (some b)] w fun e w' => e = .returned (.map (some w.heap.size)) ∧ w'.ownsMap Tryz.prog 9 ptrElem w.heap.size n D ∧ ∃ o, w' = w.alloc o := by
  obtain ⟨es, clock, hb, F, hs, hD⟩ := h
  have hq := fun w => run_eql_map_nil_sl (P := Tryz.prog) w 51 _ _ (some b) Tryz.underlying51
  have HO : Hid ((w.alloc (.map es clock)).ownsMap Tryz.prog 9 ptrElem w.heap.size n D) := ⟨es, clock, (MapKept.heap_alloc w _).1, F, hs, hD⟩
  clear F hs hD
  go_enter Tryz.func68, Tryz.ntmps68
  go_wp2
  rw [run_callFunc_extern Tryz.func102 (by kernel_rfl) (by kernel_rfl) (by kernel_rfl) (e := Extern.MapsClone.clone) (by kernel_rfl), run_maps_clone_sl w 51 hb]
  simp only [Result.andThen]
  rw [Oper.upon_value]
  go_wp2
  rw [run_typeAssert_map_sl _ 51 20 _ _ _ Tryz.underlying51]
  simp only [Result.andThen]
  rw [Oper.upon_value]
  go_wp2
  go_ret
  exact ⟨rfl, HO.out, _, rfl⟩
set_option maxRecDepth 20000 in
set_option maxHeartbeats 2000000 in
theorem makeSure_raw (w : World) (d m N : Nat) (D : DataW Unit) (v1 v3 v4 v5 v7 v8 v9 v10 : Value) (As : Option Addr) (ns cc : Nat) (o : Int) (hk : Blk w d #[.map (some m), v1, .slice As ns cc, v3, v4, v5, .int .i64 o, v7, v8, v9, v10] 56) (hown : w.ownsMap Tryz.prog 9 ptrElem m N D) (ho : (ns : Int) ≤ o) (ho1 : o ≤ 1000000000) :
    Calls Tryz.prog 38 #[pv d] w fun e w' => e = .returned (.tuple #[]) ∧ Mvs (fun k => k = d) w w' ∧ Blk w' d #[.map (some m), .map (some w.heap.size), .slice none 0 0, v3, v4, v5, .int .i64 (o - ns), v7, v8, v9, v10] 56 ∧ w'.ownsMap Tryz.prog 9 ptrElem w.heap.size N D ∧ w.heap.size < w'.heap.size := by
  have hc := hk.cell
  have hlt := hk.lt
  have HK := hide hk
  have HC := hide (cloneMap_any w m N D hown)
  clear hk hown
  unfold pv
  go_enter Tryz.func38, Tryz.ntmps38
  go_wp2_with (go_at_call 68; refine HC.out.mono ?_)
  rintro e w1 ⟨rfl, hown1, ob, hw1⟩
  have hm1 : Mvs (fun k => k = d) w w1 := by rw [hw1]; exact (Mvs.refl _ _).alloc _
  have hk1 : Blk w1 d #[.map (some m), v1, .slice As ns cc, v3, v4, v5, .int .i64 o, v7, v8, v9, v10] 56 := by rw [hw1]; exact HK.out.alloc _
  have hsz : w1.heap.size = w.heap.size + 1 := by rw [hw1]; simp
  have HS := hide hsz
  have HM1 := hide hm1
  have HO1 := hide hown1
  have hc1 := hk1.cell
  have hf1 := hk1.frozen
  have HK1 := hide hk1
  clear hw1 hm1 hown1 hk1 hsz HC HK hc
  go_wp2_with fail
  go_region
  go_wp2
  go_end0
  have hmm : Mvs (fun k => k = d) w1 (((w1.setCell ⟨d, 1, none⟩ (.map (some w.heap.size))).setCell ⟨d, 6, none⟩ (.int .i64 (o - ns))).setCell ⟨d, 2, none⟩ (.slice none 0 0)).drew := ((((Mvs.refl (fun k => k = d) w1).setCell ⟨d, 1, none⟩ _ (fun _ => rfl)).setCell ⟨d, 6, none⟩ _ (fun _ => rfl)).setCell ⟨d, 2, none⟩ _ (fun _ => rfl)).drew
  have hsz := hmm.size
  have hs1 := HS.out
  exact ⟨rfl, HM1.out.trans hmm, ((HK1.out.set 1 _).set 6 _).set 2 _, HO1.out.mvs hmm (by omega), by omega⟩
set_option maxRecDepth 20000 in
set_option maxHeartbeats 2000000 in
/-- No file has open steps. -/
theorem loseNameless_none (w : World) (d bc N : Nat) (v0 v1 v2 v4 v5 v6 v7 v8 v9 v10 : Value) (hk : Blk w d #[v0, v1, v2, .map (some bc), v4, v5, v6, v7, v8, v9, v10] 56) (hown : w.ownsMap Tryz.prog 3 ptrElem bc N (.map [])) :
    Calls Tryz.prog 39 #[pv d] w fun e w' => e = .returned (.tuple #[]) ∧ Below w.heap.size w w' := by
  have hc := hk.cell
  have HO := hide hown
  clear hk hown
  unfold pv
  go_enter Tryz.func39, Tryz.ntmps39
  go_wp2_with (at_range; refine wpList_range_own _ rfl _ 52 rfl 3 72 intKeyed Tryz.underlying52 ptrElem bc N (.map []) rfl HO.out ?_)
  intro w1 hrg0 hg0 hs0
  have HB0 := hide (Below.of_grown (B := w.heap.size) hg0 (fun j e => by cases e) (Nat.le_refl _))
  have HR0 := hide hrg0
  clear hrg0 hg0 hs0
  go_wp2
  go_loopw [10] (fun _ wr => Hid (wr = w1)) (fun _ _ => 0)
  case atStart => exact rfl
  case round =>
    obtain rfl := hrel.out
    go_wp2_with (at_next; refine wpList_next_ranges _ rfl _ rfl 3 intKeyed ptrElem (Value.int .i64) mkP (fun key kl h => by obtain ⟨x, hx, _⟩ := Maps.keyOf_int_inv Tryz.underlying3 h; exact ⟨x, hx⟩) mkP_inv bc w.heap.size N (.map []) (Maps.has (.map [])) (Maps.size (.map [] : DataW Unit)) rfl HR0.out ?_ ?_)
    · intro _ _
      go_wp2
      go_end0
      exact ⟨rfl, HB0.out⟩
    · intro x c kl y yp w2 cnt2 hkey hlk
      exact absurd hlk (by simp [Maps.has])
/-- The names have been made sure. -/
theorem DKs.resure {w0 w w' : World} {d : Nat} {ρ : Nat → Option Role} {s : St} {bn bs bc : Nat} {vs vl : Value} {Gs Gl : Option Nat} {cs : List Value} (h : DKs w0 w d ρ s bn bs bc vs vl Gs Gl cs) (hm : Mvs (fun k => k = d) w w') (nb : Nat) (hnb : w.heap.size ≤ nb) (hlt : nb < w'.heap.size) (hown : w'.ownsMap Tryz.prog 9 ptrElem nb s.N s.D) (o : Int)
    (hb : Blk w' d #[.map (some bn), .map (some nb), .slice none 0 0, .map (some bc), vl, .int .i64 s.created, .int .i64 o, .int .i64 s.steps, .int .i64 s.armed, .bool s.off, .int .i64 s.quota] 56) :
    DKs w0 w' d (putRole ρ (some nb) .sure) { s with Ds := s.D, ns := 0, nl := [], opened := o } bn nb bc (.slice none 0 0) vl none Gl [] ∧ Keeps ρ (putRole ρ (some nb) .sure) := by
  have ne : ∀ k r, ρ k = some r → r ≠ .disk → ¬ k = d := fun k r hr h1 e => by subst e; rw [h.rd] at hr; exact h1 (Option.some.inj hr).symm
  have hk : Keeps ρ (putRole ρ (some nb) .sure) := fun k r hr => by
    rw [putRole_other (fun e => by cases e; have := h.lt hr; omega)]
    exact hr
  have hw0 := h.below.size
  exact ⟨{
    below := h.below.trans (hm.below (fun k hk c => by have := (h.low d _ h.rd).1; omega) h.below.size)
    low := fun k r hr => by
      rcases putRole_cases hr with e | e
      · cases e
        exact ⟨by omega, hlt⟩
      · exact ⟨(h.low k r e).1, Nat.lt_of_lt_of_le (h.low k r e).2 hm.size⟩
    blk := hb
    rd := hk _ _ h.rd
    rn := hk _ _ h.rn
    rs := putRole_at _ _ _
    rc := hk _ _ h.rc
    names := h.names.mvs hm (ne _ _ h.rn (by simp))
    sure := hown
    chg := h.chg.mvs hm (ne _ _ h.rc (by simp))
    row := Rw.nil _ _
    rsteps := fun _ h => by cases h
    lost := h.lost.keep hm (fun g hg => ne _ _ (h.rlost g hg) (by simp))
    rlost := fun g hg => hk _ _ (h.rlost g hg)
    files := fun b fa hb => (h.files b fa hb).keep hm (fun k r hr hk => ne _ _ hr (by intro e; subst e; exact hk)) (fun k r hr _ => hk k r hr)
    vD := h.vD
    eD := h.eD
    nsr := trivial }, hk⟩
def St.synced (s : St) : St := { s with Ds := s.D, ns := 0, nl := [], opened := s.opened - s.ns, steps := s.steps + 1 }
set_option maxRecDepth 20000 in
set_option maxHeartbeats 2000000 in
/-- SyncDir, where no file has open steps. -/
theorem syncDir_ok (w0 w : World) (d : Nat) (ρ : Nat → Option Role) (s : St) (h : DK w0 w d ρ s) (hs : s.Small) (ho : (s.ns : Int) ≤ s.opened) (hch : s.ch = .map []) :
    Calls Tryz.prog 21 #[pv d] w fun e w' => e = .returned .nilIface ∧ ∃ ρ', DK w0 w' d ρ' s.synced ∧ Turn w w' ρ ρ' := by
  obtain ⟨bn, bs, bc, vs, vl, Gs, Gl, cs, h⟩ := h
  have hc := h.blk.cell
  rw [hs.off] at hc
  have HD := hide h
  clear h
  unfold pv
  go_enter Tryz.func21, Tryz.ntmps21
  go_wp2_with fail
  refine (takeStep_free _ d _ _ _ _ _ _ _ _ _ _ _ HD.out.blk hs.armed hs.s0 (by have := hs.s1; omega)).mono ?_
  rintro e w1 ⟨rfl, hw1⟩
  have hm1 : Mvs (fun k => k = d) w w1 := by rw [hw1]; exact (Mvs.refl _ _).setCell _ _ (fun _ => rfl)
  have H1 := hide (HD.out.ints hm1 s.created s.opened (s.steps + 1) s.armed s.off s.quota (by rw [hw1]; exact HD.out.blk.set 7 _))
  have HM1 := hide hm1
  obtain ⟨As, cc, rfl⟩ := H1.out.row.form
  clear hw1 hm1 hc
  go_wp2_with fail
  refine (makeSure_raw w1 d bn s.N s.D _ _ _ _ _ _ _ _ As s.ns cc s.opened H1.out.blk H1.out.names ho (by have := hs.o1; omega)).mono ?_
  rintro e w2 ⟨rfl, hm2, hk2, ho2, hlt2⟩
  obtain ⟨hD2, hK2⟩ := H1.out.resure hm2 w1.heap.size (Nat.le_refl _) hlt2 ho2 (s.opened - s.ns) hk2
  have HD2 := hide hD2
  have HM2 := hide hm2
  clear hm2 ho2 hlt2 hk2 hK2 hD2
  go_wp2_with fail
  refine (loseNameless_none w2 d bc s.N _ _ _ _ _ _ _ _ _ _ HD2.out.blk (by have := HD2.out.chg; rw [← hch]; exact this)).mono ?_
  rintro e w3 ⟨rfl, hb3⟩
  have HB3 := hide hb3
  clear hb3
  go_wp2
  go_ret
  have hD3 := HD2.out.keep (S := fun _ => False) (Mvs.of_below HB3.out) (fun _ _ _ c => c) (fun _ c => c.elim)
  refine ⟨rfl, _, ⟨_, _, _, _, _, _, _, _, hD3⟩, ⟨?_, fun k r hr hlt => ?_⟩⟩
  · exact ((HM1.out.trans HM2.out).mono fun i _ e => by subst e; exact ⟨_, HD.out.rd⟩).then HB3.out
  · rcases putRole_cases hr with e | e
    · cases e
      have := HM1.out.size
      omega
    · exact ⟨r, e⟩
end Go.Proofs.YthhnlkbjpahjeaaGreatDoor

end
