/- The chapter's own case: Open makes both files. -/
import Derived.Test.YthhnlkbjpahjeaaGreatDoorU40
namespace Go.Proofs.YthhnlkbjpahjeaaGreatDoor
open Go.RowKit Go.Maps Go.Sort
theorem Sm.replaced {s : St} {D Ds ch : DataW Unit} {ns : Nat} {cr op st : Int} {q : Int} {N : Nat} (h : Sm s D Ds ch ns cr op st (-1) false q N) (name bs : List UInt8) (f : Nat) : Sm (s.replaced name bs f) (D.put (.string name) (pd f)) Ds ((ch.put (.int .i64 s.created) (pd f)).del (.int .i64 s.created)) (ns + 1) (cr + 1) (op + 1 + 1 - ((1 : Nat) : Int)) (st + 1 + 1 + 1) (-1) false q (N + 1 + 1 + 1) :=
  ((h.madeG name f).putG f ⟨s.created, [], []⟩ bs).syncd f ⟨s.created, bs, [.put 0 bs.length]⟩
theorem erase_x {x : OpA} {v : Value} (h : x.erase = (opX v).erase) : x = opX x.val := by
  obtain ⟨kd, nm, att, vl, bs⟩ := x
  simp only [OpA.erase, opX, OpA.mk.injEq, true_and] at h
  obtain ⟨rfl, rfl, rfl, rfl⟩ := h
  rfl
theorem erase_y {x : OpA} {v : Value} (h : x.erase = (opY v).erase) : x = opY x.val := by
  obtain ⟨kd, nm, att, vl, bs⟩ := x
  simp only [OpA.erase, opY, OpA.mk.injEq, true_and] at h
  obtain ⟨rfl, rfl, rfl, rfl⟩ := h
  rfl
theorem erase_xy {xs : List OpA} {v1 v2 : Value} (h : xs.map OpA.erase = [(opX v1).erase, (opY v2).erase]) : ∃ u1 u2, xs = [opX u1, opY u2] := by
  have hl := congrArg List.length h
  rw [List.length_map] at hl
  obtain ⟨x, y, rfl⟩ : ∃ x y, xs = [x, y] := by
    cases xs with
    | nil => cases hl
    | cons x r =>
      cases r with
      | nil => cases hl
      | cons y r =>
        cases r with
        | nil => exact ⟨x, y, rfl⟩
        | cons z r => simp at hl
  simp only [List.map_cons, List.map_nil, List.cons.injEq, and_true] at h
  exact ⟨x.val, y.val, by rw [← erase_x h.1, ← erase_y h.2]⟩
/-- The state behind the change. -/
def MidA (s : St) (f0 f1 f2 : Nat) : Prop := Sm s (files3 f0 f1 f2) (files3 f0 f1 f2) (.map []) 0 3 0 11 (-1) false 1073741824 9 ∧ s.φ f0 = some ⟨0, xyRec, []⟩ ∧ s.φ f1 = some ⟨1, [120], []⟩ ∧ s.φ f2 = some ⟨2, [121], []⟩ ∧ f0 ≠ f1 ∧ f0 ≠ f2 ∧ f1 ≠ f2
/-- The state behind Open. -/
def Fin' (s : St) (f0 f1 f2 : Nat) : Prop := s.D = files3 f0 f1 f2 ∧ s.off = false ∧ s.φ f1 = some ⟨1, [120], []⟩ ∧ s.φ f2 = some ⟨2, [121], []⟩
section
variable (w0 w : World) (l d : Nat) (dead : Bool) (ρ : Nat → Option Role) (s : St) (a : Nat → Addr) (f0 : Nat)
set_option maxHeartbeats 4000000 in
theorem ado (hE : Errs w0 a) (h : LG w0 w l d dead ρ s) (hs : Sm s (files1 f0) (files1 f0) (.map []) 0 1 0 4 (-1) false 1073741824 3) (hφ : s.φ f0 = some ⟨0, xyRec, []⟩) (v1 v2 vo vr : Value) (hO : OPf w ρ vo [opX v1, opY v2]) :
    Calls Tryz.prog 26 #[.agg #[pv l, vo, vr]] w (Ans fun v w3 => v = .nilIface ∧ ∃ ρ3 s3, (∃ f1 f2, MidA s3 f0 f1 f2) ∧ LG w0 w3 l d dead ρ3 s3) := by
  have hrl := xyRec_length
  have hBX : BR w v1 [120] ∧ BR w v2 [121] := by
    obtain ⟨A, c, hv, _⟩ := hO.op.form
    have h1 := hO.op
    rw [hv] at h1
    obtain ⟨_, _, _, _, _, _, _, _, _, b1⟩ := h1.at (show 0 < 2 by decide)
    obtain ⟨_, _, _, _, _, _, _, _, _, b2⟩ := h1.at (show 1 < 2 by decide)
    exact ⟨b1, b2⟩
  have F1 : Frees ρ v1 [120] := hO.vals (opX v1) (by simp)
  have F2 : Frees ρ v2 [121] := hO.vals (opY v2) (by simp)
  refine do_any a w l d dead _ ρ [opX v1, opY v2] vo vr h.lb (fun k r hr => (h.dk.low k r hr).2) h.rl hO ?_
  intro w1 hb1 w2 hb2
  have L2 := (h.then hb1).then hb2
  have V2 := (hBX.2.below hb1).below hb2
  have hf0 := L2.dk.flt hφ
  refine (areplace w0 w2 l d dead ρ s a hE L2 hs (by decide) (by decide) (by decide) (by decide) (by decide) (by decide) (by decide) (by decide) (opX v1) rfl rightX (files1_a f0) (by simp [opX]) (by simp [opX]) ((hBX.1.below hb1).below hb2) F1 (fun f => files2_a f0 f) (fun f hf => ?_)).mono ?_
  · have s1 := hs.madeG [97] f
    have e1 : (s.madeG [97] f).φ f0 = some ⟨0, xyRec, []⟩ := (if_neg (show f0 ≠ f by omega)).trans hφ
    have e2 : (s.madeG [97] f).φ f = some ⟨s.created, [], []⟩ := if_pos rfl
    show usedOf (s.madeG [97] f) ≤ 1000
    rw [s1.used, files2_put, files2_sum e1 e2]
    show xyRec.length + 0 ≤ 1000
    omega
  rintro e w3 ⟨rfl, ρ3, f1, T3, hf1, L3⟩
  refine .inl ⟨rfl, ρ3, T3, ?_⟩
  obtain ⟨V3, F3⟩ := F2.turn V2 T3
  have hne01 : f0 ≠ f1 := by omega
  have s3 : Sm (s.replaced [97] [120] f1) (files2 f0 f1) (files1 f0) (.map []) 1 2 1 7 (-1) false 1073741824 6 := by
    have := hs.replaced [97] [120] f1
    rw [hs.cr] at this
    exact this
  have p0 : (s.replaced [97] [120] f1).φ f0 = some ⟨0, xyRec, []⟩ := (replaced_other s [97] [120] hne01).trans hφ
  have p1 : (s.replaced [97] [120] f1).φ f1 = some ⟨1, [120], []⟩ := by
    rw [replaced_φ, hs.cr]
  have L3' : LG w0 w3 l d dead ρ3 (s.replaced [97] [120] f1) := L3
  generalize s.replaced [97] [120] f1 = t3 at L3' s3 p0 p1
  clear L3
  intro w4 hb4
  have L4 := L3'.then hb4
  have hf0' := L4.dk.flt p0
  have hf1' := L4.dk.flt p1
  refine (areplace w0 w4 l d dead ρ3 t3 a hE L4 s3 (by decide) (by decide) (by decide) (by decide) (by decide) (by decide) (by decide) (by decide) (opY v2) rfl rightBb (files2_b f0 f1) (by simp [opY]) (by simp [opY]) (V3.below hb4) F3 (fun f => files3_b f0 f1 f) (fun f hf => ?_)).mono ?_
  · have s1 := s3.madeG [98] f
    have e0 : (t3.madeG [98] f).φ f0 = some ⟨0, xyRec, []⟩ := (if_neg (show f0 ≠ f by omega)).trans p0
    have e1 : (t3.madeG [98] f).φ f1 = some ⟨1, [120], []⟩ := (if_neg (show f1 ≠ f by omega)).trans p1
    have e2 : (t3.madeG [98] f).φ f = some ⟨t3.created, [], []⟩ := if_pos rfl
    show usedOf (t3.madeG [98] f) ≤ 1000
    rw [s1.used, files3_put, files3_sum e0 e1 e2]
    show xyRec.length + (1 + 0) ≤ 1000
    omega
  rintro e w5 ⟨rfl, ρ5, f2, T5, hf2, L5⟩
  refine .inl ⟨rfl, ρ5, T5, ?_⟩
  have hne02 : f0 ≠ f2 := by omega
  have hne12 : f1 ≠ f2 := by omega
  have s5 : Sm (t3.replaced [98] [121] f2) (files3 f0 f1 f2) (files1 f0) (.map []) 2 3 2 10 (-1) false 1073741824 9 := by
    have := s3.replaced [98] [121] f2
    rw [s3.cr] at this
    exact this
  have r0 : (t3.replaced [98] [121] f2).φ f0 = some ⟨0, xyRec, []⟩ := (replaced_other t3 [98] [121] hne02).trans p0
  have r1 : (t3.replaced [98] [121] f2).φ f1 = some ⟨1, [120], []⟩ := (replaced_other t3 [98] [121] hne12).trans p1
  have r2 : (t3.replaced [98] [121] f2).φ f2 = some ⟨2, [121], []⟩ := by
    rw [replaced_φ, s3.cr]
  have L5' : LG w0 w5 l d dead ρ5 (t3.replaced [98] [121] f2) := L5
  generalize t3.replaced [98] [121] f2 = t5 at L5' s5 r0 r1 r2
  clear L5
  intro w6 hb6
  have L6 := L5'.then hb6
  refine (syncDir_okG w0 w6 d ρ5 t5 L6.dk (s5.small (by decide) (by decide) (by decide) (by decide) (by decide) (by decide) (by decide) (by decide) (by decide) (by rw [s5.used, files3_sum r0 r1 r2]; show xyRec.length + (1 + 1) ≤ _; omega)) (by rw [s5.ns, s5.op]; decide) s5.ch).mono ?_
  rintro e w7 ⟨rfl, ρ7, hd7, ht7⟩
  exact ⟨_, rfl, rfl, ρ7, _, ⟨f1, f2, s5.syncedG, r0, r1, r2, hne01, hne02, hne12⟩, L6.turn hd7 ht7⟩
set_option maxHeartbeats 4000000 in
theorem aend (g : Nat) (h : LG w0 w l d dead ρ s) {f1 f2 : Nat} (hM : MidA s f0 f1 f2) (rg : ρ g = none) (hk : Blk w g (endFs l).toArray 61) :
    RunsG a g (endFs l) w fun v w5 => v = .nilIface ∧ ∃ ρ5 s5, (∃ f1 f2, Fin' s5 f0 f1 f2) ∧ LG w0 w5 l d dead ρ5 s5 := by
  obtain ⟨hs, p0, p1, p2, n01, n02, n12⟩ := hM
  have hrl := xyRec_length
  have hkeep : ∀ {x y : World} {ρ1 ρ2 : Nat → Option Role}, Turn x y ρ1 ρ2 → g < x.heap.size → ρ1 g = none → y.heap[g]? = x.heap[g]? := fun ht hl hr => ht.1.block g hl (fun ⟨r, e⟩ => by rw [hr] at e; cases e)
  have hgl := hk.lt
  unfold endFs
  refine RunsG.step _ _ (by intros; kernel_rfl) ?_
  refine (emptyLog_via w l d dead (fun v w2 => v = .nilIface ∧ ∃ ρ2, Turn w w2 ρ ρ2 ∧ DK w0 w2 d ρ2 (s.cutG f0 ⟨0, xyRec, []⟩)) h.lb ?_).mono ?_
  · refine (truncate0_okG w0 w d ρ s h.dk (hs.small (by decide) (by decide) (by decide) (by decide) (by decide) (by decide) (by decide) (by decide) (by decide) (by rw [hs.used, files3_sum p0 p1 p2]; show xyRec.length + (1 + 1) ≤ _; omega)) redoN rightRedo f0 ⟨0, xyRec, []⟩ (by rw [hs.D]; exact files3_redo f0 f1 f2) p0 (by decide) (by decide) (by decide) (by show xyRec.length ≤ _; omega)).mono ?_
    rintro e w2 ⟨rfl, ρ2, hd2, ht2, _⟩
    exact ⟨_, rfl, rfl, ρ2, ht2, hd2⟩
  rintro e w2 ⟨_, rfl, rfl, ρ2, T2, hd2⟩
  refine .inl ⟨rfl, hkeep T2 hgl rg, ?_⟩
  have L2 := h.turn hd2 T2
  have s2 := hs.cutG f0 ⟨0, xyRec, []⟩
  have q0 : (s.cutG f0 ⟨0, xyRec, []⟩).φ f0 = some ⟨0, [], [.cut xyRec]⟩ := if_pos rfl
  have q1 : (s.cutG f0 ⟨0, xyRec, []⟩).φ f1 = some ⟨1, [120], []⟩ := (if_neg n01.symm).trans p1
  have q2 : (s.cutG f0 ⟨0, xyRec, []⟩).φ f2 = some ⟨2, [121], []⟩ := (if_neg n02.symm).trans p2
  generalize s.cutG f0 ⟨0, xyRec, []⟩ = t2 at L2 s2 q0 q1 q2 hd2
  refine RunsG.step _ _ (by intros; kernel_rfl) ?_
  refine (syncLog_via w2 l d dead (fun v w3 => v = .nilIface ∧ Turn w2 w3 ρ2 ρ2 ∧ DK w0 w3 d ρ2 (t2.syncd f0 ⟨0, [], [.cut xyRec]⟩)) L2.lb ?_).mono ?_
  · refine (sync_ok w0 w2 d ρ2 t2 L2.dk s2.off (by rw [s2.ar]; decide) (by rw [s2.ar]; decide) (by rw [s2.st]; decide) (by rw [s2.st]; decide) (by rw [s2.op]; decide) redoN rightRedo f0 ⟨0, [], [.cut xyRec]⟩ (by rw [s2.D]; exact files3_redo f0 f1 f2) q0 (by decide) (by decide) (by rw [s2.op]; decide)).mono ?_
    rintro e w3 ⟨rfl, hd3, ht3⟩
    exact ⟨_, rfl, rfl, ht3, hd3⟩
  rintro e w3 ⟨_, rfl, rfl, T3, hd3⟩
  have s3 := s2.syncd f0 ⟨0, [], [.cut xyRec]⟩
  exact .inl ⟨rfl, hkeep T3 (Nat.lt_of_lt_of_le hgl T2.1.size) (T2.off hgl rg), rfl, ρ2, _, ⟨f1, f2, s3.D, s3.off, (if_neg n01.symm).trans q1, (if_neg n02.symm).trans q2⟩, L2.turn hd3 T3⟩
set_option maxHeartbeats 4000000 in
theorem aopen (hE : Errs w0 a) (h : DK w0 w d ρ s) (hs : Sm s (files1 f0) (files1 f0) (.map []) 0 1 0 4 (-1) false 1000 3) (hφ : s.φ f0 = some ⟨0, xyRec, []⟩) :
    Calls Tryz.prog 15 #[pv d] w fun e w' => ∃ l, e = .returned (.tuple #[pv l, .nilIface]) ∧ ∃ ρ5 s5, (∃ f1 f2, Fin' s5 f0 f1 f2) ∧ LG w0 w' l d false ρ5 s5 := by
  have hrl := xyRec_length
  have hbl : (opsB [opX (.slice none 0 0), opY (.slice none 0 0)]).length = 25 := by
    rw [opsB_length]
    rfl
  have hpay : (xyRec.drop 8).take 25 = opsB [opX (.slice none 0 0), opY (.slice none 0 0)] := by
    have := rec_payload (opsB [opX (.slice none 0 0), opY (.slice none 0 0)])
    rw [hbl] at this
    exact this
  have hwh : wholeN xyRec = some 25 := by
    have := whole_rec (opsB [opX (.slice none 0 0), opY (.slice none 0 0)]) (by omega)
    rw [hbl] at this
    exact this
  refine open_via w0 w d ρ s (fun s5 => ∃ f1 f2, Fin' s5 f0 f1 f2) h hs.off f0 ⟨0, xyRec, []⟩ (by rw [hs.D]; exact files1_redo f0) hφ (by show xyRec.length ≤ _; omega) rightRedo ?_
  intro l w1 v L1 hv hf
  refine (finish_ok w0 w1 l d false ρ s a (fun s3 => ∃ f1 f2, MidA s3 f0 f1 f2) (fun s5 => ∃ f1 f2, Fin' s5 f0 f1 f2) hE L1 (by rw [hs.q]; decide) (by rw [hs.q]; decide) xyRec v hv hf (by omega) (fun e => by rw [e] at hrl; cases hrl) 25 hwh ([opX (.slice none 0 0), opY (.slice none 0 0)].map OpA.erase) (by rw [hpay]; exact opsOf_opsB _ (xy_form _ _)) (fun e => by rw [hpay] at e; rw [e] at hbl; cases hbl) (by rw [hpay, hbl]; decide) ?_ ?_).mono ?_
  · intro w2 vo xs L2 O2 hx
    obtain ⟨u1, u2, rfl⟩ := erase_xy hx
    exact ado w0 w2 l d false ρ _ a f0 hE L2 (hs.quota 1073741824) hφ u1 u2 vo _ O2
  · rintro g w4 ρ4 s3 ⟨f1, f2, hM⟩ L4 rg hk
    exact aend w0 w4 l d false ρ4 s3 a f0 g L4 hM rg hk
  rintro e w' ⟨rfl, ρ5, s5, ⟨f1, f2, h1, h2, h3, h4⟩, L5⟩
  exact ⟨rfl, ρ5, { s5 with quota := s.quota }, ⟨f1, f2, h1, h2, h3, h4⟩, L5⟩
end
end Go.Proofs.YthhnlkbjpahjeaaGreatDoor
