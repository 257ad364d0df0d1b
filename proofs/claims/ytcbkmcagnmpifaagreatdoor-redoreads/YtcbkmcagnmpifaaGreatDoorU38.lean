/- The chapter's own case: a log is made on an empty disk. -/
/- The chapter's own case: the power goes behind the log's Sync. -/
import Derived.Test.YtcbkmcagnmpifaaGreatDoorU37
section
namespace Go.Proofs.YtcbkmcagnmpifaaGreatDoor
open Go.RowKit Go.Maps Go.Sort
theorem RunsG.step {a : Nat → Addr} {g : Nat} {r : List Value} {w : World} {Q : Value → World → Prop} (F : Nat) (fi : Array Value) (eg : ∀ args w, (callFunc F args).run Tryz.prog w = .ok (.enter F args) w)
    (hc : Calls Tryz.prog F fi w fun e w' => (e = .returned .nilIface ∧ w'.heap[g]? = w.heap[g]? ∧ RunsG a g r w' Q) ∨ ∃ i, e = .returned (errV a i) ∧ Q (errV a i) w') : RunsG a g (.func (.func F) fi #[] :: r) w Q :=
  ⟨F, fi, #[], rfl, eg, by rw [Array.append_empty]; exact hc⟩
/-- The state behind Format. -/
def Fmt (s : St) (f0 : Nat) : Prop := Sm s (files1 f0) (files1 f0) (.map []) 0 1 0 2 (-1) false 1000 1 ∧ s.φ f0 = some ⟨0, [], []⟩
section
variable (w0 w : World) (d : Nat) (ρ : Nat → Option Role) (a : Nat → Addr)
set_option maxHeartbeats 1000000 in
theorem afmt (hE : Errs w0 a) (h : DK w0 w d ρ (emptySt 1000)) :
    Calls Tryz.prog 18 #[pv d] w fun e w' => e = .returned (.tuple #[pv w.heap.size, .nilIface]) ∧ ∃ ρ' s f0, LG w0 w' w.heap.size d false ρ' s ∧ Fmt s f0 := by
  refine format_via w d a (fun w' => ∃ ρ' s f0, LG w0 w' w.heap.size d false ρ' s ∧ Fmt s f0) ?_
  intro g w1 hb1 hl1 hlg hg1 _ hkg
  have hd1 := h.then hb1
  have L1 : LG w0 w1 w.heap.size d false ρ (emptySt 1000) := ⟨hd1, hl1, h.free (Nat.le_refl _), h.below.size⟩
  have rg : ρ g = none := h.free (by omega)
  refine RunsG.step _ _ (by intros; kernel_rfl) ?_
  refine (makeLog_via w1 w.heap.size d false (fun v w2 => v = .nilIface ∧ ∃ ρ2 f, DK w0 w2 d ρ2 ((emptySt 1000).madeG redoN f) ∧ Turn w1 w2 ρ ρ2) hl1 ?_).mono ?_
  · refine (create_okG w0 w1 d ρ (emptySt 1000) a hE hd1 rfl (by decide) (by decide) (by decide) (by decide) (by decide) (by decide) (by decide) (by decide) (by decide) (by decide) redoN rightRedo rfl).mono ?_
    rintro e w2 ⟨rfl, ρ2, f, hd2, ht2, _⟩
    exact ⟨_, rfl, rfl, ρ2, f, hd2, ht2⟩
  rintro e w2 ⟨_, rfl, rfl, ρ2, f, hd2, ht2⟩
  have k2 := ht2.blk hkg rg
  have rg2 := ht2.off hkg.lt rg
  refine .inl ⟨rfl, runs_blk hkg k2, ?_⟩
  have L2 := L1.turn hd2 ht2
  have s1 := (Sm.empty 1000).madeG redoN f
  rw [files1_put] at s1
  have hφ : ((emptySt 1000).madeG redoN f).φ f = some ⟨0, [], []⟩ := if_pos rfl
  refine RunsG.step _ _ (by intros; kernel_rfl) ?_
  refine (syncDir_okG w0 w2 d ρ2 _ hd2 (s1.small (by decide) (by decide) (by decide) (by decide) (by decide) (by decide) (by decide) (by decide) (by decide) (by rw [s1.used, files1_sum hφ]; decide)) (by rw [s1.ns, s1.op]; decide) s1.ch).mono ?_
  rintro e w3 ⟨rfl, ρ3, hd3, ht3⟩
  refine .inl ⟨rfl, runs_blk k2 (ht3.blk k2 rg2), rfl, ρ3, _, f, L2.turn hd3 ht3, s1.syncedG, hφ⟩
end
end Go.Proofs.YtcbkmcagnmpifaaGreatDoor

end
section
namespace Go.Proofs.YtcbkmcagnmpifaaGreatDoor
open Go.RowKit Go.Maps Go.Sort
theorem LG.kill {w0 w : World} {l d : Nat} {ρ : Nat → Option Role} {s : St} (h : LG w0 w l d false ρ s) : LG w0 (w.setCell ⟨l, 1, none⟩ (.bool true)) l d true ρ s := by
  have hm : Mvs (fun k => k = l) w (w.setCell ⟨l, 1, none⟩ (.bool true)) := (Mvs.refl (fun k => k = l) w).setCell ⟨l, 1, none⟩ _ (fun _ => rfl)
  exact ⟨h.dk.keep hm (fun k r hr e => by subst e; rw [h.rl] at hr; cases hr) (fun k e => by subst e; exact h.low), h.lb.set 1 _, h.rl, h.low⟩
/-- The chapter's two operations. -/
def opX (v : Value) : OpA := ⟨2, [97], 0, v, [120]⟩
def opY (v : Value) : OpA := ⟨2, [98], 0, v, [121]⟩
theorem xy_form (v1 v2 : Value) : formB [opX v1, opY v2] = true := by
  rw [← form_erase]
  show formB [opX (.slice none 0 0), opY (.slice none 0 0)] = true
  decide
def xyRec : List UInt8 := recB (opsB [opX (.slice none 0 0), opY (.slice none 0 0)])
theorem xy_rec (v1 v2 : Value) : recB (opsB [opX v1, opY v2]) = xyRec := by
  rw [← opsB_erase]
  rfl
theorem xyRec_length : xyRec.length = 33 := by
  unfold xyRec
  rw [recB_length, opsB_length]
  decide
theorem rightX : rightB [97] = true := by decide
section
variable {w0 w : World} {l d : Nat} {ρ : Nat → Option Role} {s : St}
theorem one_size {f0 : Nat} {fa : FA} (h : DK w0 w d ρ s) (hD : s.D = files1 f0) (hφ : s.φ f0 = some fa) (hl : fa.bytes.length ≤ 1000000) (name : List UInt8) : szOf s name ≤ 1000000000 := by
  rcases h.dich name with hn | ⟨b, fb, hb, hφb⟩
  · rw [szOf_none hn]
    omega
  · rw [szOf_some hb hφb]
    rw [hD] at hb
    have e := one_at (show (DataW.map [(.string redoN, pd f0)]).atKey (.string name) .nil = pd b from hb)
    subst e
    rw [hφ] at hφb
    cases hφb
    omega
end
section
variable (w0 w : World) (l d : Nat) (ρ : Nat → Option Role) (s : St) (a : Nat → Addr) (f0 : Nat)
set_option maxHeartbeats 4000000 in
theorem acommit (hE : Errs w0 a) (h : LG w0 w l d false ρ s) (hs : Sm s (files1 f0) (files1 f0) (.map []) 0 1 0 2 2 false 1000 1) (hφ : s.φ f0 = some ⟨0, [], []⟩) (v1 v2 vo : Value) (hO : OPf w ρ vo [opX v1, opY v2]) :
    Calls Tryz.prog 19 #[pv l, vo] w fun e w' => e = .returned (errV a 7) ∧ ∃ ρ' s', LG w0 w' l d true ρ' s' ∧ Sm s' (files1 f0) (files1 f0) (.map []) 0 1 0 4 0 true 1000 3 ∧ s'.φ f0 = some ⟨0, xyRec, []⟩ := by
  refine commit_cut w l d a (fun w' => ∃ ρ' s', LG w0 w' l d true ρ' s' ∧ Sm s' (files1 f0) (files1 f0) (.map []) 0 1 0 4 0 true 1000 3 ∧ s'.φ f0 = some ⟨0, xyRec, []⟩) [opX v1, opY v2] vo h.lb hO.op (xy_form v1 v2) ?_
  intro g w1 vr hb1 hvr hvrf hg hkg
  rw [xy_rec] at hvr
  have hrl := xyRec_length
  have hrne : xyRec ≠ [] := fun e => by rw [e] at hrl; cases hrl
  have L1 := h.then hb1
  have O1 := hO.then hb1
  have rg : ρ g = none := h.dk.free hg
  have rv : Frees ρ vr xyRec := fun _ A n c e => h.dk.free (hvrf A n c e)
  have hgl := hkg.lt
  have hu : usedOf s = 0 := by rw [hs.used, files1_sum hφ]; rfl
  have hsm := hs.small (by decide) (by decide) (by decide) (by decide) (by decide) (by decide) (by decide) (by decide) (by decide) (by rw [hu]; decide)
  unfold commitFs at hkg ⊢
  -- it isn't refused
  refine RunsG.step _ _ (by intros; kernel_rfl) ?_
  refine (refuse_any w0 w1 l d false ρ s a hE L1 hs.off (by rw [hs.N]; decide) (by rw [hu]; decide) hsm.q0 hsm.q1 [opX v1, opY v2] vo vr O1.op (xy_form v1 v2) (one_size h.dk hs.D hφ (by decide)) xyRec hvr (by omega)).mono ?_
  rintro e w2 ⟨hb2, ns, hp, rfl⟩
  have href : refV a s [opX v1, opY v2] xyRec.length (mostF ns [opX v1, opY v2] ns.length ns.length) = .nilIface := by
    have hnl : ns.length = 1 := by
      have := hp.length_eq
      rw [hs.D] at this
      exact this
    have hmf := mostF_bound ns [opX v1, opY v2] ns.length ns.length 1 (by omega) (by omega)
    have hr := roomI_le s [opX v1, opY v2]
    have hsz : sizeOps [opX v1, opY v2] = 25 := rfl
    unfold refV
    rw [if_neg (by simp [misB, opX, opY]), if_neg (by simp at hmf; omega), if_neg (by rw [hs.q, hu, hrl]; omega)]
  rw [href]
  have k2 := hkg.below hb2 hgl
  refine .inl ⟨rfl, runs_blk hkg k2, ?_⟩
  have L2 := L1.then hb2
  have O2 := O1.then hb2
  have V2 := hvr.below hb2
  -- the record is written
  refine RunsG.step _ _ (by intros; kernel_rfl) ?_
  refine (write_via w2 l d false (fun v w3 => v = .nilIface ∧ ∃ w2' ρ3, Below w2.heap.size w2 w2' ∧ Turn w2' w3 ρ ρ3 ∧ DK w0 w3 d ρ3 (s.putG f0 ⟨0, [], []⟩ xyRec)) L2.lb vo vr ?_).mono ?_
  · intro w2' hb2'
    refine (append_okG w0 w2' d ρ s (L2.then hb2').dk hsm redoN rightRedo f0 ⟨0, [], []⟩ (by rw [hs.D]; exact files1_redo f0) hφ (by decide) (by decide) (by decide) vr xyRec (V2.below hb2') (fun A n c e => rv hrne A n c e) (by show 0 + xyRec.length ≤ _; omega) (by rw [hs.q, hu, hrl]; decide)).mono ?_
    rintro e w3 ⟨rfl, ρ3, hd3, ht3, _⟩
    exact ⟨_, rfl, rfl, w2', ρ3, hb2', ht3, hd3⟩
  rintro e w3 ⟨_, rfl, rfl, w2', ρ3, hb2', ht3, hd3⟩
  have k2' := k2.below hb2' k2.lt
  have k3 := ht3.blk k2' rg
  have rg3 := ht3.off k2'.lt rg
  refine .inl ⟨rfl, runs_blk k2 k3, ?_⟩
  have L3 := (L2.then hb2').turn hd3 ht3
  have O3 := (O2.then hb2').turn ht3
  have s3 := hs.putG f0 ⟨0, [], []⟩ xyRec
  have hφ3 : (s.putG f0 ⟨0, [], []⟩ xyRec).φ f0 = some ⟨0, xyRec, [.put 0 xyRec.length]⟩ := if_pos rfl
  generalize s.putG f0 ⟨0, [], []⟩ xyRec = t3 at L3 s3 hφ3 hd3
  -- the log is made sure
  refine RunsG.step _ _ (by intros; kernel_rfl) ?_
  refine (syncLog_via w3 l d false (fun v w4 => v = .nilIface ∧ DK w0 w4 d ρ3 (t3.syncd f0 ⟨0, xyRec, [.put 0 xyRec.length]⟩) ∧ Turn w3 w4 ρ3 ρ3) L3.lb ?_).mono ?_
  · refine (sync_ok w0 w3 d ρ3 t3 L3.dk s3.off (by rw [s3.ar]; decide) (by rw [s3.ar]; decide) (by rw [s3.st]; decide) (by rw [s3.st]; decide) (by rw [s3.op]; decide) redoN rightRedo f0 ⟨0, xyRec, [.put 0 xyRec.length]⟩ (by rw [s3.D]; exact files1_redo f0) hφ3 (by decide) (by decide) (by rw [s3.op]; show ((1 : Nat) : Int) ≤ _; decide)).mono ?_
    rintro e w4 ⟨rfl, hd4, ht4⟩
    exact ⟨_, rfl, rfl, hd4, ht4⟩
  rintro e w4 ⟨_, rfl, rfl, hd4, ht4⟩
  have k4 := ht4.blk k3 rg3
  have rg4 := ht4.off k3.lt rg3
  refine .inl ⟨rfl, runs_blk k3 k4, ?_⟩
  have L4 := L3.turn hd4 ht4
  have O4 := O3.turn ht4
  have s4 := s3.syncd f0 ⟨0, xyRec, [.put 0 xyRec.length]⟩
  have hφ4 : (t3.syncd f0 ⟨0, xyRec, [.put 0 xyRec.length]⟩).φ f0 = some ⟨0, xyRec, []⟩ := if_pos rfl
  generalize t3.syncd f0 ⟨0, xyRec, [.put 0 xyRec.length]⟩ = t4 at L4 s4 hφ4 hd4
  have s4' : Sm t4 (files1 f0) (files1 f0) (.map []) 0 1 0 4 0 false 1000 3 := s4
  -- the power goes
  refine RunsG.step _ _ (by intros; kernel_rfl) ?_
  refine (do_any a w4 l d false (fun v w5 => v = errV a 7 ∧ ∃ ρ5, LG w0 w5 l d false ρ5 t4.gone) ρ3 [opX v1, opY v2] vo vr L4.lb (fun k r hr => (L4.dk.low k r hr).2) L4.rl O4 ?_).mono ?_
  · intro w5 hb5 w6 hb6
    have L6 := (L4.then hb5).then hb6
    refine (odo_replace w6 l (fun v w' => v = errV a 7 ∧ ∃ ρ5, LG w0 w' l d false ρ5 t4.gone) (opX v1) a rfl ?_).mono ?_
    · intro g' w7 hb7 _ _
      have L7 := L6.then hb7
      refine RunsG.step _ _ (by intros; kernel_rfl) ?_
      refine (oclear_create w7 l d false (fun v w' => v = errV a 7 ∧ ∃ ρ5, LG w0 w' l d false ρ5 t4.gone) (opX v1) L7.lb (fun w8 hb8 => isThere_none w0 w8 l d false ρ3 t4 a (opX v1) hE (L7.then hb8) s4'.off rightX (by rw [s4'.D]; exact files1_a f0)) ?_).mono ?_
      · intro w8 hb8
        refine (create_gone w0 w8 d ρ3 t4 a hE (L7.then hb8).dk s4'.off s4'.ar (by rw [s4'.N]; decide) [97] rightX (by rw [s4'.D]; exact files1_a f0)).mono ?_
        rintro e w9 ⟨rfl, hd9, ht9⟩
        exact ⟨_, rfl, rfl, ρ3, (L7.then hb8).turn hd9 ht9⟩
      rintro e w9 ⟨_, rfl, rfl, hq⟩
      exact .inr ⟨7, rfl, rfl, hq⟩
    rintro e w9 ⟨_, rfl, rfl, hq⟩
    exact .inr ⟨7, rfl, rfl, hq⟩
  rintro e w5 ⟨_, rfl, rfl, ρ5, L5⟩
  refine .inr ⟨7, rfl, rfl, (hE.below L5.dk.below).cell 7 (by decide), L5.lb, ρ5, t4.gone, L5.kill, s4'.gone, hφ4⟩
end
end Go.Proofs.YtcbkmcagnmpifaaGreatDoor

end
