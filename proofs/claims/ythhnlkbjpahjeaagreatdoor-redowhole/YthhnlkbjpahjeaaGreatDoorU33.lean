/- Take. -/
/- Open, where the log has a change's record. -/
/- A change that the log has is done again, and the log emptied. -/
import Derived.Test.YthhnlkbjpahjeaaGreatDoorU19
import Derived.Test.YthhnlkbjpahjeaaGreatDoorU32
import Derived.Defers
import Derived.Deep.RegionHeld3
section
namespace Go.Proofs.YthhnlkbjpahjeaaGreatDoor
open Go.RowKit
/-- What Take answers. -/
def TakeNo (w w' : World) (e : Ending) : Prop := e = .returned (.tuple #[.slice none 0 0, .slice none 0 0, .bool false]) ∧ Below w.heap.size w w'
def TakeYes (w w' : World) (e : Ending) (bs : List UInt8) (n : Nat) : Prop := ∃ v1 v2, e = .returned (.tuple #[v1, v2, .bool true]) ∧ BR w' v1 ((bs.drop 8).take n) ∧ BR w' v2 (bs.drop (8 + n)) ∧ Below w.heap.size w w'
set_option maxRecDepth 20000 in
set_option maxHeartbeats 4000000 in
theorem take_no (bs : List UInt8) (v : Value) (w : World) (h : BR w v bs) (hn : wholeN bs = none) :
    Calls Tryz.prog 100 #[v] w fun e w' => TakeNo w w' e := by
  have HF : Hid (Calls Tryz.prog 127 #[v] w fun e w' => FirstNo w w' e) := (first_any bs v w h).mono fun e w' hh => hh.1 hn
  obtain ⟨A, c, rfl, _⟩ := BR.form h
  clear h hn
  go_enter Tryz.func100, Tryz.ntmps100
  go_wp2_with (go_at_call 127; refine HF.out.mono ?_; rintro e w1 ⟨rfl, m, rfl⟩)
  go_ret3
  exact ⟨rfl, below_drewN _ _⟩
set_option maxRecDepth 20000 in
set_option maxHeartbeats 4000000 in
theorem take_yes (bs : List UInt8) (v : Value) (w : World) (h : BR w v bs) (hb : bs.length ≤ 900000) (n : Nat) (hn : wholeN bs = some n) :
    Calls Tryz.prog 100 #[v] w fun e w' => TakeYes w w' e bs n := by
  have HF : Hid (Calls Tryz.prog 127 #[v] w fun e w' => FirstYes v w w' e bs n) := (first_any bs v w h).mono fun e w' hh => hh.2 n hn
  have hl1 := hide (show ((bs.drop 8).take n).length ≤ 1000000 by rw [List.length_take, List.length_drop]; omega)
  have hl2 := hide (show (bs.drop (8 + n)).length ≤ 1000000 by rw [List.length_drop]; omega)
  obtain ⟨A, c, rfl, _⟩ := BR.form h
  clear h hn hb
  go_enter Tryz.func100, Tryz.ntmps100
  go_wp2_with fail
  refine HF.out.mono ?_
  rintro e w1 ⟨a1, n1, c1, a2, n2, c2, rfl, h1, h2, _, m, rfl⟩
  replace h1 := hide (h1.drewN m)
  replace h2 := hide (h2.drewN m)
  go_wp2_with fail
  refine (clone_any _ a1 n1 c1 _ h1.out hl1.out).mono ?_
  rintro e w2 ⟨v1, rfl, T1⟩
  replace T1 := hide T1
  replace h2 := hide (h2.out.below T1.out.1)
  go_wp2_with fail
  refine (clone_any _ a2 n2 c2 _ h2.out hl2.out).mono ?_
  rintro e w3 ⟨v2, rfl, T2⟩
  have T1' := hide (T1.out.then T2.1)
  replace T2 := hide T2
  have hB := hide ((below_drewN w m).trans ((T1'.out.1.mono (Nat.le_refl _))))
  go_wp2
  go_ret3
  exact ⟨_, _, rfl, T1'.out.br, T2.out.br, hB.out⟩
end Go.Proofs.YthhnlkbjpahjeaaGreatDoor

end
section
namespace Go.Proofs.YthhnlkbjpahjeaaGreatDoor
open Go.RowKit Go.Maps Go.Sort
theorem RB.of_br {w : World} {v : Value} {bs : List UInt8} (h : BR w v bs) (h0 : bs ≠ []) : RB w v bs := by
  obtain ⟨A, c, rfl, _⟩ := BR.form h
  obtain ⟨g, o, rfl, _⟩ := BR.at h h0
  exact .inr ⟨g, o, c, rfl, h⟩
set_option maxRecDepth 8000 in
set_option maxHeartbeats 2000000 in
/-- A whole record of a change's bytes. -/
theorem ofirst_yes (bs : List UInt8) (v : Value) (w : World) (h : BR w v bs) (hb : bs.length ≤ 900000) (n : Nat) (hn : wholeN bs = some n) (a : Nat → Addr) (hE : Errs w a) (ys : List OpA) (hy : opsOf ((bs.drop 8).take n) = some ys) (h0 : (bs.drop 8).take n ≠ []) (hl : ((bs.drop 8).take n).length ≤ 400000) :
    Calls Tryz.prog 65 #[v] w fun e w' => Below w.heap.size w w' ∧ ∃ vo xs, e = .returned (.tuple #[vo, .bool true]) ∧ OPn w.heap.size w' vo xs ∧ xs.map OpA.erase = ys := by
  have HT := hide (take_yes bs v w h hb n hn)
  obtain ⟨A, c, rfl, _⟩ := BR.form h
  have HE := hide (fun w' hb => hE.below (w' := w') hb)
  replace h0 := hide h0
  replace hl := hide hl
  replace hy := hide hy
  clear h hE hn
  go_enter Tryz.func65, Tryz.ntmps65
  go_wp2_with fail
  refine HT.out.mono ?_
  rintro e w1 ⟨v1, v2, rfl, h1, _, hb1⟩
  have HO := oops_any ((bs.drop 8).take n) v1 w1 (RB.of_br h1 h0.out) hl.out a (HE.out w1 hb1)
  rw [hy.out] at HO
  replace HO := hide HO
  have HB1 := hide hb1
  clear h1 hb1 HT
  go_wp2_with fail
  refine HO.out.mono ?_
  rintro e w2 ⟨hb2, vo, xs, rfl, hP, hx⟩
  have HB2 := hide (HB1.out.trans (hb2.mono HB1.out.size))
  have hP' : OPn w.heap.size w2 vo xs := ⟨hP.1, fun A n c e => Nat.le_trans HB1.out.size (hP.2.1 A n c e), fun x hx A n c e => Nat.le_trans HB1.out.size (hP.2.2 x hx A n c e)⟩
  replace hP' := hide hP'
  replace hx := hide hx
  clear hb2 hP HO
  go_wp2_with fail
  go_quiet (fail)
  go_wp2
  go_ret2
  have hd : Below w2.heap.size w2 (w2.drewN nq) := below_drewN _ _
  exact ⟨HB2.out.trans (hd.mono HB2.out.size), vo, xs, rfl, ⟨hP'.out.1.below hd, hP'.out.2⟩, hx.out⟩
section
variable {w0 w : World} {l d : Nat} {dead : Bool} {ρ : Nat → Option Role} {s : St}
theorem DK.setQ (h : DK w0 w d ρ s) (q : Int) : DK w0 (w.setCell ⟨d, 10, none⟩ (.int .i64 q)) d ρ { s with quota := q } ∧ Turn w (w.setCell ⟨d, 10, none⟩ (.int .i64 q)) ρ ρ := by
  obtain ⟨bn, bs, bc, vs, vl, Gs, Gl, cs, h⟩ := h
  have hm : Mvs (fun k => k = d) w (w.setCell ⟨d, 10, none⟩ (.int .i64 q)) := (Mvs.refl (fun k => k = d) w).setCell ⟨d, 10, none⟩ _ (fun _ => rfl)
  exact ⟨⟨_, _, _, _, _, _, _, _, h.ints hm s.created s.opened s.steps s.armed s.off q (h.blk.set 10 _)⟩, hm.mono fun k _ e => by subst e; exact ⟨_, h.rd⟩, fun k r hr _ => ⟨r, hr⟩⟩
theorem setQuota_dk (h : DK w0 w d ρ s) (q : Int) (h0 : 0 ≤ q) (h1 : q ≤ 1073741824) : Calls Tryz.prog 18 #[pv d, .int .i64 q] w fun e w' => e = .returned .nilIface ∧ DK w0 w' d ρ { s with quota := q } ∧ Turn w w' ρ ρ := by
  have h' := h.setQ q
  obtain ⟨bn, bs, bc, vs, vl, Gs, Gl, cs, h⟩ := h
  refine (setQuota_ok w d _ _ _ _ _ _ _ _ _ _ _ q h.blk h0 h1).mono ?_
  rintro e w' ⟨rfl, rfl⟩
  exact ⟨rfl, h'⟩
end
set_option maxHeartbeats 1000000 in
theorem setQuota_d (w : World) (d : Nat) (v0 v1 v2 v3 v4 v5 v6 v7 v8 v9 v10 : Value) (q : Int) (hk : Blk w d #[v0, v1, v2, v3, v4, v5, v6, v7, v8, v9, v10] 56) (h0 : 0 ≤ q) (h1 : q ≤ 1073741824) (u : FrameMode) :
    CallsD Tryz.prog 18 #[pv d, .int .i64 q] u w fun e u' w' => u' = u ∧ (e = .returned .nilIface ∧ w' = w.setCell ⟨d, 10, none⟩ (.int .i64 q)) := by
  have hc := hk.cell
  have hf := hk.frozen
  have g0 : decide (q < 0) = false := decide_eq_false (by omega)
  have g1 : decide (1073741824 < q) = false := decide_eq_false (by omega)
  clear hk h1
  unfold pv
  go_enter_d Tryz.func18, Tryz.ntmps18
  go_wp2
  go_ret
  exact ⟨rfl, rfl⟩
end Go.Proofs.YthhnlkbjpahjeaaGreatDoor

end
section
namespace Go.Proofs.YthhnlkbjpahjeaaGreatDoor
open Go.RowKit Go.Maps Go.Sort
set_option maxRecDepth 20000 in
set_option maxHeartbeats 2000000 in
theorem read_new (w0 w : World) (d : Nat) (ρ : Nat → Option Role) (s : St) (h : DK w0 w d ρ s) (hoff : s.off = false) (name : List UInt8) (hr : rightB name = true) (b : Nat) (fa : FA) (hat : s.D.atKey (.string name) .nil = pd b) (hφ : s.φ b = some fa) (hl : fa.bytes.length ≤ 1000000) :
    Calls Tryz.prog 34 #[pv d, .string ⟨name.toArray⟩] w fun e w' => ∃ v, e = .returned (.tuple #[v, .nilIface]) ∧ Bts w w' v fa.bytes := by
  have HF := hide (find_there w0 w d ρ s h hoff name hr b hat)
  obtain ⟨bn, bs, bc, vs, vl, Gs, Gl, cs, hD⟩ := h
  obtain ⟨vb, vo, Gb, Go, fs, hFs⟩ := hD.files b fa hφ
  have hc := hFs.blk.cell
  have HC := hide (cloneB_any fa.bytes vb w hFs.row.br hl)
  clear hD hFs hat
  unfold pv at *
  go_enter Tryz.func34, Tryz.ntmps34
  go_wp2_with (go_at_call 63; refine HF.out.mono ?_; rintro e w' ⟨rfl, rfl⟩)
  refine HC.out.mono ?_
  rintro e w2 ⟨v, rfl, hT⟩
  have H2 := hide hT
  clear hT HC HF
  go_wp2
  go_ret2
  exact ⟨_, rfl, H2.out⟩
theorem Bts.above {w wr : World} {v : Value} {bs : List UInt8} (h : Bts w wr v bs) : ∀ A n c, v = .slice (some A) n c → w.heap.size ≤ A.block := by
  obtain ⟨_, G, hr, hg⟩ := h
  rintro A n c rfl
  rcases hr.2 with ⟨h, _⟩ | ⟨g, o, cap, hG, hv, _⟩
  · cases h
  · cases hv
    exact hg _ hG
def endFs (l : Nat) : List Value := [.func (.func 27) #[pv l] #[], .func (.func 25) #[pv l] #[]]
section
variable (w0 w : World) (l d : Nat) (dead : Bool) (ρ : Nat → Option Role) (s : St) (a : Nat → Addr) (P P5 : St → Prop)
set_option maxRecDepth 8000 in
set_option maxHeartbeats 8000000 in
theorem finish_ok (hE : Errs w0 a) (h : LG w0 w l d dead ρ s) (hq0 : 0 ≤ s.quota) (hq1 : s.quota ≤ 1073741824) (bs : List UInt8) (v : Value) (hv : BR w v bs) (hvf : Frees ρ v bs) (hb : bs.length ≤ 900000) (hbn : bs ≠ []) (n : Nat) (hn : wholeN bs = some n) (ys : List OpA) (hy : opsOf ((bs.drop 8).take n) = some ys) (h0 : (bs.drop 8).take n ≠ []) (hl : ((bs.drop 8).take n).length ≤ 400000)
    (hdo : ∀ w2 vo xs, LG w0 w2 l d dead ρ { s with quota := 1073741824 } → OPf w2 ρ vo xs → xs.map OpA.erase = ys → Calls Tryz.prog 26 #[.agg #[pv l, vo, .slice none 0 0]] w2 (Ans fun v w3 => v = .nilIface ∧ ∃ ρ3 s3, P s3 ∧ LG w0 w3 l d dead ρ3 s3))
    (hrun : ∀ g w4 ρ4 s3, P s3 → LG w0 w4 l d dead ρ4 s3 → ρ4 g = none → Blk w4 g (endFs l).toArray 61 → RunsG a g (endFs l) w4 fun v w5 => v = .nilIface ∧ ∃ ρ5 s5, P5 s5 ∧ LG w0 w5 l d dead ρ5 s5) :
    Calls Tryz.prog 35 #[pv l, v] w fun e w' => e = .returned .nilIface ∧ ∃ ρ5 s5, P5 s5 ∧ LG w0 w' l d dead ρ5 { s5 with quota := s.quota } := by
  obtain ⟨A, c, rfl, _⟩ := BR.form hv
  have hbl : (((bs.length : Nat) : Int) == 0) = false := by
    have := List.length_pos_iff.2 hbn
    simp
    omega
  have hlen : bs.length ≤ 9223372036854775807 := by omega
  have HL := hide h
  have hcl := h.lb.cell
  have HQ := hide (fun m : Nat => quota_any w0 (w.drewN m) d ρ s (h.dk.drewN m))
  have HV := hide (And.intro hv hvf)
  have HV2 : ∀ {x y : World} {ρ' : Nat → Option Role}, (BR x (.slice A bs.length c) bs ∧ Frees ρ (.slice A bs.length c) bs) → Turn x y ρ ρ' → (BR y (.slice A bs.length c) bs ∧ Frees ρ' (.slice A bs.length c) bs) := fun h ht => h.2.turn h.1 ht
  clear h hv hvf
  unfold pv at *
  go_enter_defers Tryz.func35, Tryz.ntmps35
  go_wp2_with fail
  refine wp_region_noPanic ?_
  go_region_with (go_at_call 47; refine (HQ.out 1).mono ?_; rintro e w' ⟨rfl, rfl⟩)
  all_goals (
    refine NoPanic.normal ?_
    have L1 := hide (HL.out.then (below_drewN w 1))
    have V1 := hide (And.intro (HV.out.1.below (below_drewN w 1)) HV.out.2)
    generalize w.drewN 1 = w1 at *
    clear HL HV HQ hcl
    have hcl := L1.out.lb.cell
    go_wp2_with fail
    refine (setQuota_dk L1.out.dk 1073741824 (by decide) (by decide)).mono ?_
    rintro e w2 ⟨rfl, hd2, ht2⟩
    have L2 := hide (L1.out.turn hd2 ht2)
    have V2 := hide (HV2 V1.out ht2)
    clear hd2 ht2 hcl L1 V1
    go_wp2_with fail
    refine (ofirst_yes bs _ w2 V2.out.1 hb n hn a (hE.below L2.out.dk.below) ys hy h0 hl).mono ?_
    rintro e w3 ⟨hb3, vo, xs, rfl, hP, hx⟩
    have L3 := hide (L2.out.then hb3)
    have O3 : Hid (OPf w3 ρ vo xs) := ⟨hP.1, fun _ A n c e => L2.out.dk.free (hP.2.1 A n c e), fun x hx _ A n c e => L2.out.dk.free (hP.2.2 x hx A n c e)⟩
    have HD := hide (hdo w3 vo xs L3.out O3.out hx)
    obtain ⟨Ao, co, rfl, _⟩ := O3.out.op.form
    clear hb3 hP hx L2 V2 L3 O3
    go_wp2_with fail
    refine HD.out.mono ?_
    rintro e w4 ⟨_, rfl, rfl, ρ3, s3, hP3, L4⟩
    have hbg : Below w4.heap.size w4 (w4.alloc (.cells (endFs l).toArray 61)) := (Below.refl _ _).alloc (Nat.le_refl _) _
    have HRun := hide (run_any a (endFs l) w4.heap.size _ _ (Blk.new w4 (endFs l).toArray 61) (by simp [endFs]) (hrun w4.heap.size _ ρ3 s3 hP3 (L4.then hbg) (L4.dk.free (Nat.le_refl _)) (Blk.new _ _ _)))
    unfold endFs pv at HRun
    clear hbg L4 HD
    go_wp2_with fail
    refine HRun.out.mono ?_
    rintro e w5 ⟨_, rfl, rfl, ρ5, s5, h5, L5⟩
    replace L5 := hide L5
    clear HRun
    go_wp2
    obtain ⟨bn, bs', bc, vs, vl, Gs, Gl, cs, hD5⟩ := L5.out.dk
    refine leaves_cons (f := 18) (args := #[.pointer (some ⟨d, 0, none⟩), .int .i64 s.quota]) (by simp) (by simp [go_sem]) ?_
    refine (setQuota_d w5 d _ _ _ _ _ _ _ _ _ _ _ s.quota hD5.blk hq0 hq1 .returning).mono ?_
    rintro e u' w6 ⟨rfl, rfl, rfl⟩
    obtain ⟨hd6, ht6⟩ := L5.out.dk.setQ s.quota
    exact ⟨_, results_tmp rfl _ _ _, rfl, ρ5, s5, h5, L5.out.turn hd6 ht6⟩)
set_option maxRecDepth 8000 in
set_option maxHeartbeats 2000000 in
/-- Open, where the log has something. -/
theorem open_via (hd : DK w0 w d ρ s) (hoff : s.off = false) (b : Nat) (fa : FA) (hat : s.D.atKey (.string redoN) .nil = pd b) (hφ : s.φ b = some fa) (hlen : fa.bytes.length ≤ 1000000) (hr : rightB redoN = true)
    (hf : ∀ l w1 v, LG w0 w1 l d false ρ s → BR w1 v fa.bytes → Frees ρ v fa.bytes → Calls Tryz.prog 35 #[pv l, v] w1 fun e w' => e = .returned .nilIface ∧ ∃ ρ5 s5, P5 s5 ∧ LG w0 w' l d false ρ5 s5) :
    Calls Tryz.prog 15 #[pv d] w fun e w' => ∃ l, e = .returned (.tuple #[pv l, .nilIface]) ∧ ∃ ρ5 s5, P5 s5 ∧ LG w0 w' l d false ρ5 s5 := by
  have HR := hide (read_new w0 w d ρ s hd hoff redoN hr b fa hat hφ hlen)
  have HD := hide hd
  have hf := hide hf
  clear hd hat
  unfold pv redoN at *
  go_enter Tryz.func15, Tryz.ntmps15
  go_wp2_with fail
  refine HR.out.mono ?_
  rintro e w1 ⟨v, rfl, hT⟩
  have hv := hT.br
  have hb1 := hT.1
  have hfr : Frees ρ v fa.bytes := fun _ A n c e => HD.out.free (hT.above A n c e)
  have hb2 : Below w1.heap.size w1 (w1.alloc (.cells #[.pointer (some ⟨d, 0, none⟩), .bool false] 59)) := (Below.refl _ _).alloc (Nat.le_refl _) _
  have hd1 := HD.out.then hb1
  have L2 : LG w0 (w1.alloc (.cells #[.pointer (some ⟨d, 0, none⟩), .bool false] 59)) w1.heap.size d false ρ s := ⟨hd1.then hb2, Blk.new _ _ _, hd1.free (Nat.le_refl _), hd1.below.size⟩
  have HF := hide (hf.out w1.heap.size _ v L2 (hv.below hb2) hfr)
  obtain ⟨A, c, rfl, _⟩ := BR.form hv
  clear hb1 hb2 hd1 hfr L2 hv HR hT
  go_wp2_with fail
  refine HF.out.mono ?_
  rintro e w3 ⟨rfl, hq⟩
  replace hq := hide hq
  clear HF
  go_wp2
  go_ret2
  exact ⟨_, rfl, hq.out⟩
set_option maxRecDepth 8000 in
set_option maxHeartbeats 2000000 in
theorem logRead_ok (h : LG w0 w l d dead ρ s) (hoff : s.off = false) (name : List UInt8) (hr : rightB name = true) (hn : (name == redoN) = false) (b : Nat) (fa : FA) (hat : s.D.atKey (.string name) .nil = pd b) (hφ : s.φ b = some fa) (hlen : fa.bytes.length ≤ 1000000) :
    Calls Tryz.prog 17 #[pv l, .string ⟨name.toArray⟩] w fun e w' => ∃ v, e = .returned (.tuple #[v, .bool true]) ∧ BR w' v fa.bytes ∧ Below w.heap.size w w' := by
  have HR := hide (read_ok w0 w d ρ s h.dk hoff name hr b fa hat hφ hlen)
  have hcl := h.lb.cell
  clear h hat
  unfold pv redoN at *
  go_enter Tryz.func17, Tryz.ntmps17
  go_wp2_with fail
  refine HR.out.mono ?_
  rintro e w1 ⟨v, rfl, hv, hb1⟩
  have HV := hide (And.intro hv hb1)
  clear hv hb1 HR hcl
  go_wp2_with fail
  go_quiet (fail)
  go_wp2
  go_ret2
  exact ⟨_, rfl, HV.out.1.below (below_drewN _ _), HV.out.2.trans ((below_drewN _ _).mono HV.out.2.size)⟩
end
end Go.Proofs.YthhnlkbjpahjeaaGreatDoor

end
