/- The names and the bounds that two changes want. -/
/- The chapter's own case: the power goes behind the log's Sync. -/
/- A file is replaced that isn't there: made, filled, made sure. -/
import Derived.Test.YthhnlkbjpahjeaaGreatDoorU36
import Derived.Test.YthhnlkbjpahjeaaGreatDoorU34
section
namespace Go.Proofs.YthhnlkbjpahjeaaGreatDoor
open Go.RowKit
/-- How many bytes a change's operations on a name hold. -/
def tb : List OpA → Nm → Nat
  | [], _ => 0
  | x :: xs, n => (if x.name = n then x.bytes.length else 0) + tb xs n
def allB : List OpA → Nat
  | [] => 0
  | x :: xs => x.bytes.length + allB xs
theorem tb_le : ∀ (xs : List OpA) (n : Nm), tb xs n ≤ allB xs
  | [], _ => Nat.le_refl _
  | x :: xs, n => by
    have := tb_le xs n
    unfold tb allB
    split <;> omega
theorem tb_at : ∀ {xs : List OpA} {x : OpA}, x ∈ xs → x.bytes.length ≤ tb xs x.name
  | y :: xs, x, h => by
    unfold tb
    rcases List.mem_cons.1 h with rfl | h
    · rw [if_pos rfl]
      omega
    · have := tb_at h
      omega
theorem zero_sum : ∀ L : List Nm, (L.map (fun _ => 0)).sum = 0
  | [] => rfl
  | n :: L => by rw [List.map_cons, List.sum_cons, zero_sum L]
theorem one_sum (m : Nm) (c : Nat) : ∀ {L : List Nm}, L.Nodup → (L.map (fun n => if m = n then c else 0)).sum ≤ c
  | [], _ => Nat.zero_le _
  | n :: L, h => by
    obtain ⟨h1, h2⟩ := List.nodup_cons.1 h
    have := one_sum m c h2
    rw [List.map_cons, List.sum_cons]
    by_cases e : m = n
    · subst e
      have h0 : (L.map (fun n => if m = n then c else 0)).sum = 0 := by
        have : L.map (fun n => if m = n then c else 0) = L.map (fun _ => 0) := List.map_congr_left (fun n hn => if_neg (fun e => h1 (by rw [e]; exact hn)))
        rw [this]
        exact zero_sum L
      rw [h0, if_pos rfl]
      omega
    · rw [if_neg e]
      omega
theorem sum_add (f g : Nm → Nat) : ∀ L : List Nm, (L.map (fun n => f n + g n)).sum = (L.map f).sum + (L.map g).sum
  | [] => rfl
  | n :: L => by
    simp only [List.map_cons, List.sum_cons, sum_add f g L]
    omega
theorem tb_sum : ∀ (xs : List OpA) {L : List Nm}, L.Nodup → (L.map (tb xs)).sum ≤ allB xs
  | [], L, _ => by
    induction L with
    | nil => exact Nat.le_refl _
    | cons a L ih => rename_i h; have := ih (List.nodup_cons.1 h).2; rw [List.map_cons, List.sum_cons]; unfold tb allB at *; omega
  | x :: xs, L, h => by
    have h1 := tb_sum xs h
    have h2 := one_sum x.name x.bytes.length h
    have e : L.map (tb (x :: xs)) = L.map (fun n => (if x.name = n then x.bytes.length else 0) + tb xs n) := rfl
    rw [e, sum_add (fun n => if x.name = n then x.bytes.length else 0) (tb xs) L]
    unfold allB
    omega
def alOf (xs ys : List OpA) : List Nm := redoN :: (xs.map OpA.name ++ ys.map OpA.name)
def boundOf (xs ys : List OpA) (n : Nm) : Nat := if n = redoN then 30000 else tb xs n + tb ys n
structure Fine (xs : List OpA) : Prop where
  len : xs.length ≤ 16
  form : ∀ x ∈ xs, opForm x = true
  nodup : (xs.map OpA.name).Nodup
  all : allB xs ≤ 20001
theorem Fine.nil : Fine [] := ⟨by decide, (fun x h => by cases h), List.nodup_nil, by decide⟩
theorem Fine.ne {xs : List OpA} (h : Fine xs) {n : Nm} (hn : n ∈ xs.map OpA.name) : n ≠ redoN ∧ rightB n = true := by
  obtain ⟨x, hx, rfl⟩ := List.mem_map.1 hn
  have := h.form x hx
  unfold opForm at this
  simp only [Bool.and_eq_true] at this
  refine ⟨fun e => ?_, this.1⟩
  rw [e] at this
  exact absurd this.2.1 (by decide)
theorem lim_of {xs ys : List OpA} (hx : Fine xs) (hy : Fine ys) : Lim (alOf xs ys) (boundOf xs ys) := by
  have a1 := hx.all
  have a2 := hy.all
  have part : ∀ {L : List Nm}, L.Nodup → (∀ n ∈ L, n ≠ redoN) → (L.map (boundOf xs ys)).sum ≤ 40002 := fun {L} hn hne => by
    have e : L.map (boundOf xs ys) = L.map (fun n => tb xs n + tb ys n) := List.map_congr_left (fun n h => if_neg (hne n h))
    rw [e, sum_add]
    have h1 := tb_sum xs hn
    have h2 := tb_sum ys hn
    omega
  refine ⟨?_, ?_, ?_, ?_⟩
  · have := hx.len
    have := hy.len
    simp only [alOf, List.length_cons, List.length_append, List.length_map]
    omega
  · intro n hn
    rcases List.mem_cons.1 hn with rfl | hn
    · exact rightRedoN
    · rcases List.mem_append.1 hn with hn | hn
      · exact (hx.ne hn).2
      · exact (hy.ne hn).2
  · intro n
    unfold boundOf
    have h1 := tb_le xs n
    have h2 := tb_le ys n
    split <;> omega
  · have h1 := part hx.nodup (fun n hn => (hx.ne hn).1)
    have h2 := part hy.nodup (fun n hn => (hy.ne hn).1)
    have h3 : boundOf xs ys redoN = 30000 := if_pos rfl
    simp only [alOf, List.map_cons, List.map_append, List.sum_cons, List.sum_append, h3]
    omega
theorem fine_of {xs : List OpA} (hf : formB xs = true) (ha : allB xs ≤ 20001) : Fine xs := by
  obtain ⟨_, h16, hg, _⟩ := form_parts hf
  obtain ⟨h1, h2⟩ := good_allN hg
  exact ⟨h16, fun x hx => (h1 x hx).1, h2, ha⟩
end Go.Proofs.YthhnlkbjpahjeaaGreatDoor

end
section
namespace Go.Proofs.YthhnlkbjpahjeaaGreatDoor
open Go.RowKit Go.Maps Go.Sort
theorem LG.kill {w0 w : World} {l d : Nat} {ρ : Nat → Option Role} {s : St} (h : LG w0 w l d false ρ s) : LG w0 (w.setCell ⟨l, 1, none⟩ (.bool true)) l d true ρ s := by
  have hm : Mvs (fun k => k = l) w (w.setCell ⟨l, 1, none⟩ (.bool true)) := (Mvs.refl (fun k => k = l) w).setCell ⟨l, 1, none⟩ _ (fun _ => rfl)
  exact ⟨h.dk.keep hm (fun k r hr e => by subst e; rw [h.rl] at hr; cases hr) (fun k e => by subst e; exact h.low), h.lb.set 1 _, h.rl, h.low⟩
/-- The chapter's two operations. -/
def opX (v : Value) : OpA := ⟨2, [97], 0, v, [120]⟩
def opY (v : Value) : OpA := ⟨2, [98], 0, v, [121]⟩
theorem xy_form (v1 v2 : Value) : formB [opX v1, opY v2] = true := by
  rw [← form_erase]
  show formB [opX (.slice none 0 0), opY (.slice none 0 0)] = true
  decide
def xyRec : List UInt8 := recB (opsB [opX (.slice none 0 0), opY (.slice none 0 0)])
theorem xy_rec (v1 v2 : Value) : recB (opsB [opX v1, opY v2]) = xyRec := by
  rw [← opsB_erase]
  rfl
theorem xyRec_length : xyRec.length = 33 := by
  unfold xyRec
  rw [recB_length, opsB_length]
  decide
theorem rightX : rightB [97] = true := by decide
section
variable {w0 w : World} {l d : Nat} {ρ : Nat → Option Role} {s : St}
theorem one_size {f0 : Nat} {fa : FA} (h : DK w0 w d ρ s) (hD : s.D = files1 f0) (hφ : s.φ f0 = some fa) (hl : fa.bytes.length ≤ 1000000) (name : List UInt8) : szOf s name ≤ 1000000000 := by
  rcases h.dich name with hn | ⟨b, fb, hb, hφb⟩
  · rw [szOf_none hn]
    omega
  · rw [szOf_some hb hφb]
    rw [hD] at hb
    have e := one_at (show (DataW.map [(.string redoN, pd f0)]).atKey (.string name) .nil = pd b from hb)
    subst e
    rw [hφ] at hφb
    cases hφb
    omega
end
section
variable (w0 w : World) (l d : Nat) (ρ : Nat → Option Role) (s : St) (a : Nat → Addr) (f0 : Nat)
set_option maxHeartbeats 4000000 in
theorem acommit (hE : Errs w0 a) (h : LG w0 w l d false ρ s) (hs : Sm s (files1 f0) (files1 f0) (.map []) 0 1 0 2 2 false 1000 1) (hφ : s.φ f0 = some ⟨0, [], []⟩) (v1 v2 vo : Value) (hO : OPf w ρ vo [opX v1, opY v2]) :
    Calls Tryz.prog 8 #[pv l, vo] w fun e w' => e = .returned (errV a 7) ∧ ∃ ρ' s', LG w0 w' l d true ρ' s' ∧ Sm s' (files1 f0) (files1 f0) (.map []) 0 1 0 4 0 true 1000 3 ∧ s'.φ f0 = some ⟨0, xyRec, []⟩ := by
  refine commit_cut w l d a (fun w' => ∃ ρ' s', LG w0 w' l d true ρ' s' ∧ Sm s' (files1 f0) (files1 f0) (.map []) 0 1 0 4 0 true 1000 3 ∧ s'.φ f0 = some ⟨0, xyRec, []⟩) [opX v1, opY v2] vo h.lb hO.op (xy_form v1 v2) ?_
  intro g w1 vr hb1 hvr hvrf hg hkg
  rw [xy_rec] at hvr
  have hrl := xyRec_length
  have hrne : xyRec ≠ [] := fun e => by rw [e] at hrl; cases hrl
  have L1 := h.then hb1
  have O1 := hO.then hb1
  have rg : ρ g = none := h.dk.free hg
  have rv : Frees ρ vr xyRec := fun _ A n c e => h.dk.free (hvrf A n c e)
  have hgl := hkg.lt
  have hu : usedOf s = 0 := by rw [hs.used, files1_sum hφ]; rfl
  have hsm := hs.small (by decide) (by decide) (by decide) (by decide) (by decide) (by decide) (by decide) (by decide) (by decide) (by rw [hu]; decide)
  unfold commitFs at hkg ⊢
  -- it isn't refused
  refine RunsG.step _ _ (by intros; kernel_rfl) ?_
  refine (refuse_any w0 w1 l d false ρ s a hE L1 hs.off (by rw [hs.N]; decide) (by rw [hu]; decide) hsm.q0 hsm.q1 [opX v1, opY v2] vo vr O1.op (xy_form v1 v2) (one_size h.dk hs.D hφ (by decide)) xyRec hvr (by omega)).mono ?_
  rintro e w2 ⟨hb2, ns, hp, rfl⟩
  have href : refV a s [opX v1, opY v2] xyRec.length (mostF ns [opX v1, opY v2] ns.length ns.length) = .nilIface := by
    have hnl : ns.length = 1 := by
      have := hp.length_eq
      rw [hs.D] at this
      exact this
    have hmf := mostF_bound ns [opX v1, opY v2] ns.length ns.length 1 (by omega) (by omega)
    have hr := roomI_le s [opX v1, opY v2]
    have hsz : sizeOps [opX v1, opY v2] = 25 := rfl
    unfold refV
    rw [if_neg (by simp [misB, opX, opY]), if_neg (by simp at hmf; omega), if_neg (by rw [hs.q, hu, hrl]; omega)]
  rw [href]
  have k2 := hkg.below hb2 hgl
  refine .inl ⟨rfl, runs_blk hkg k2, ?_⟩
  have L2 := L1.then hb2
  have O2 := O1.then hb2
  have V2 := hvr.below hb2
  -- the record is written
  refine RunsG.step _ _ (by intros; kernel_rfl) ?_
  refine (write_via w2 l d false (fun v w3 => v = .nilIface ∧ ∃ w2' ρ3, Below w2.heap.size w2 w2' ∧ Turn w2' w3 ρ ρ3 ∧ DK w0 w3 d ρ3 (s.putG f0 ⟨0, [], []⟩ xyRec)) L2.lb vo vr ?_).mono ?_
  · intro w2' hb2'
    refine (append_okG w0 w2' d ρ s (L2.then hb2').dk hsm redoN rightRedo f0 ⟨0, [], []⟩ (by rw [hs.D]; exact files1_redo f0) hφ (by decide) (by decide) (by decide) vr xyRec (V2.below hb2') (fun A n c e => rv hrne A n c e) (by show 0 + xyRec.length ≤ _; omega) (by rw [hs.q, hu, hrl]; decide)).mono ?_
    rintro e w3 ⟨rfl, ρ3, hd3, ht3, _⟩
    exact ⟨_, rfl, rfl, w2', ρ3, hb2', ht3, hd3⟩
  rintro e w3 ⟨_, rfl, rfl, w2', ρ3, hb2', ht3, hd3⟩
  have k2' := k2.below hb2' k2.lt
  have k3 := ht3.blk k2' rg
  have rg3 := ht3.off k2'.lt rg
  refine .inl ⟨rfl, runs_blk k2 k3, ?_⟩
  have L3 := (L2.then hb2').turn hd3 ht3
  have O3 := (O2.then hb2').turn ht3
  have s3 := hs.putG f0 ⟨0, [], []⟩ xyRec
  have hφ3 : (s.putG f0 ⟨0, [], []⟩ xyRec).φ f0 = some ⟨0, xyRec, [.put 0 xyRec.length]⟩ := if_pos rfl
  generalize s.putG f0 ⟨0, [], []⟩ xyRec = t3 at L3 s3 hφ3 hd3
  -- the log is made sure
  refine RunsG.step _ _ (by intros; kernel_rfl) ?_
  refine (syncLog_via w3 l d false (fun v w4 => v = .nilIface ∧ DK w0 w4 d ρ3 (t3.syncd f0 ⟨0, xyRec, [.put 0 xyRec.length]⟩) ∧ Turn w3 w4 ρ3 ρ3) L3.lb ?_).mono ?_
  · refine (sync_ok w0 w3 d ρ3 t3 L3.dk s3.off (by rw [s3.ar]; decide) (by rw [s3.ar]; decide) (by rw [s3.st]; decide) (by rw [s3.st]; decide) (by rw [s3.op]; decide) redoN rightRedo f0 ⟨0, xyRec, [.put 0 xyRec.length]⟩ (by rw [s3.D]; exact files1_redo f0) hφ3 (by decide) (by decide) (by rw [s3.op]; show ((1 : Nat) : Int) ≤ _; decide)).mono ?_
    rintro e w4 ⟨rfl, hd4, ht4⟩
    exact ⟨_, rfl, rfl, hd4, ht4⟩
  rintro e w4 ⟨_, rfl, rfl, hd4, ht4⟩
  have k4 := ht4.blk k3 rg3
  have rg4 := ht4.off k3.lt rg3
  refine .inl ⟨rfl, runs_blk k3 k4, ?_⟩
  have L4 := L3.turn hd4 ht4
  have O4 := O3.turn ht4
  have s4 := s3.syncd f0 ⟨0, xyRec, [.put 0 xyRec.length]⟩
  have hφ4 : (t3.syncd f0 ⟨0, xyRec, [.put 0 xyRec.length]⟩).φ f0 = some ⟨0, xyRec, []⟩ := if_pos rfl
  generalize t3.syncd f0 ⟨0, xyRec, [.put 0 xyRec.length]⟩ = t4 at L4 s4 hφ4 hd4
  have s4' : Sm t4 (files1 f0) (files1 f0) (.map []) 0 1 0 4 0 false 1000 3 := s4
  -- the power goes
  refine RunsG.step _ _ (by intros; kernel_rfl) ?_
  refine (do_any a w4 l d false (fun v w5 => v = errV a 7 ∧ ∃ ρ5, LG w0 w5 l d false ρ5 t4.gone) ρ3 [opX v1, opY v2] vo vr L4.lb (fun k r hr => (L4.dk.low k r hr).2) L4.rl O4 ?_).mono ?_
  · intro w5 hb5 w6 hb6
    have L6 := (L4.then hb5).then hb6
    refine (odo_replace w6 l (fun v w' => v = errV a 7 ∧ ∃ ρ5, LG w0 w' l d false ρ5 t4.gone) (opX v1) a rfl ?_).mono ?_
    · intro g' w7 hb7 _ _
      have L7 := L6.then hb7
      refine RunsG.step _ _ (by intros; kernel_rfl) ?_
      refine (oclear_create w7 l d false (fun v w' => v = errV a 7 ∧ ∃ ρ5, LG w0 w' l d false ρ5 t4.gone) (opX v1) L7.lb (fun w8 hb8 => isThere_none w0 w8 l d false ρ3 t4 a (opX v1) hE (L7.then hb8) s4'.off rightX (by rw [s4'.D]; exact files1_a f0)) ?_).mono ?_
      · intro w8 hb8
        refine (create_gone w0 w8 d ρ3 t4 a hE (L7.then hb8).dk s4'.off s4'.ar (by rw [s4'.N]; decide) [97] rightX (by rw [s4'.D]; exact files1_a f0)).mono ?_
        rintro e w9 ⟨rfl, hd9, ht9⟩
        exact ⟨_, rfl, rfl, ρ3, (L7.then hb8).turn hd9 ht9⟩
      rintro e w9 ⟨_, rfl, rfl, hq⟩
      exact .inr ⟨7, rfl, rfl, hq⟩
    rintro e w9 ⟨_, rfl, rfl, hq⟩
    exact .inr ⟨7, rfl, rfl, hq⟩
  rintro e w5 ⟨_, rfl, rfl, ρ5, L5⟩
  refine .inr ⟨7, rfl, rfl, (hE.below L5.dk.below).cell 7 (by decide), L5.lb, ρ5, t4.gone, L5.kill, s4'.gone, hφ4⟩
end
end Go.Proofs.YthhnlkbjpahjeaaGreatDoor

end
section
namespace Go.Proofs.YthhnlkbjpahjeaaGreatDoor
open Go.RowKit Go.Maps Go.Sort
theorem Turn.of_belowA {w w' : World} (ρ : Nat → Option Role) (h : Below w.heap.size w w') : Turn w w' ρ ρ := ⟨Mvs.of_below h, fun _ r hr _ => ⟨r, hr⟩⟩
/-- The state behind it. -/
def St.replaced (s : St) (name : List UInt8) (bs : List UInt8) (f : Nat) : St := ((s.madeG name f).putG f ⟨s.created, [], []⟩ bs).syncd f ⟨s.created, bs, [.put 0 bs.length]⟩
theorem replaced_φ (s : St) (name bs : List UInt8) (f : Nat) : (s.replaced name bs f).φ f = some ⟨s.created, bs, []⟩ := if_pos rfl
theorem replaced_other (s : St) (name bs : List UInt8) {f k : Nat} (h : k ≠ f) : (s.replaced name bs f).φ k = s.φ k := by
  show (if k = f then _ else if k = f then _ else if k = f then _ else s.φ k) = _
  rw [if_neg h, if_neg h, if_neg h]
section
variable (w0 w : World) (l d : Nat) (dead : Bool) (ρ : Nat → Option Role) (s : St) (a : Nat → Addr)
set_option maxHeartbeats 4000000 in
theorem areplace (hE : Errs w0 a) (h : LG w0 w l d dead ρ s) {D Ds ch : DataW Unit} {ns : Nat} {cr op st : Int} {N : Nat} (hs : Sm s D Ds ch ns cr op st (-1) false 1073741824 N)
    (c0 : 0 ≤ cr) (c1 : cr ≤ 1000) (o0 : 0 ≤ op) (o1 : op ≤ 1000) (t0 : 0 ≤ st) (t1 : st ≤ 1000) (n1 : ns ≤ 1000) (N1 : N ≤ 50) (x : OpA) (hk : x.kind = 2) (hr : rightB x.name = true) (hn : D.atKey (.string x.name) .nil = .nil) (hb0 : x.bytes ≠ []) (hb1 : x.bytes.length ≤ 1000) (hv : BR w x.val x.bytes) (hf : Frees ρ x.val x.bytes)
    (hp : ∀ f, (D.put (.string x.name) (pd f)).atKey (.string x.name) .nil = pd f) (hu : ∀ f, w.heap.size ≤ f → usedOf (s.madeG x.name f) ≤ 1000) :
    Calls Tryz.prog 51 #[opAgg l x] w fun e w' => e = .returned .nilIface ∧ ∃ ρ' f, Turn w w' ρ ρ' ∧ w.heap.size ≤ f ∧ LG w0 w' l d dead ρ' (s.replaced x.name x.bytes f) := by
  have hpos := List.length_pos_iff.2 hb0
  refine (odo_replace w l (fun v w' => v = .nilIface ∧ ∃ ρ' f, Turn w w' ρ ρ' ∧ w.heap.size ≤ f ∧ LG w0 w' l d dead ρ' (s.replaced x.name x.bytes f)) x a hk ?_).mono ?_
  · intro g w1 hbl1 hg1 hg2
    have L1 := h.then hbl1
    have T1 := Turn.of_belowA ρ hbl1
    have V1 := hv.below hbl1
    have rg : ρ g = none := h.dk.free hg1
    have hkeep : ∀ {x y : World} {ρ1 ρ2 : Nat → Option Role}, Turn x y ρ1 ρ2 → g < x.heap.size → ρ1 g = none → y.heap[g]? = x.heap[g]? := fun ht hl hr => ht.1.block g hl (fun ⟨r, e⟩ => by rw [hr] at e; cases e)
    have ar1 : dec (-1) = -1 := rfl
    -- made
    refine RunsG.step _ _ (by intros; kernel_rfl) ?_
    refine (oclear_create w1 l d dead (fun v w2 => v = .nilIface ∧ ∃ ρ2 f, Turn w1 w2 ρ ρ2 ∧ w1.heap.size ≤ f ∧ DK w0 w2 d ρ2 (s.madeG x.name f)) x L1.lb (fun w2 hb2 => isThere_none w0 w2 l d dead ρ s a x hE (L1.then hb2) hs.off hr (by rw [hs.D]; exact hn)) ?_).mono ?_
    · intro w2 hb2
      refine (create_okG w0 w2 d ρ s a hE (L1.then hb2).dk hs.off (by rw [hs.ar]; decide) (by rw [hs.ar]; decide) (by rw [hs.st]; omega) (by rw [hs.st]; omega) (by rw [hs.op]; omega) (by rw [hs.op]; omega) (by rw [hs.cr]; omega) (by rw [hs.cr]; omega) (by rw [hs.N]; omega) (by rw [hs.ns]; omega) x.name hr (by rw [hs.D]; exact hn)).mono ?_
      rintro e w3 ⟨rfl, ρ3, f, hd3, ht3, hf3⟩
      exact ⟨_, rfl, rfl, ρ3, f, (Turn.of_belowA ρ hb2).trans ht3, Nat.le_trans hb2.size hf3, hd3⟩
    rintro e w2 ⟨_, rfl, rfl, ρ2, f, T2, hf2, hd2⟩
    refine .inl ⟨rfl, hkeep T2 hg2 rg, ?_⟩
    have L2 := L1.turn hd2 T2
    have rg2 := T2.off hg2 rg
    have hg2' : g < w2.heap.size := Nat.lt_of_lt_of_le hg2 T2.1.size
    obtain ⟨V2, F2⟩ := hf.turn V1 T2
    have s2 := hs.madeG x.name f
    have hφ2 : (s.madeG x.name f).φ f = some ⟨s.created, [], []⟩ := if_pos rfl
    have hu2 := hu f (Nat.le_trans hbl1.size hf2)
    have hc0 : 0 ≤ s.created := by rw [hs.cr]; exact c0
    have hc1 : s.created ≤ 1000 := by rw [hs.cr]; exact c1
    -- filled
    obtain ⟨Av, cv, hva, _⟩ := BR.form V2
    refine RunsG.step _ _ (by intros; kernel_rfl) ?_
    refine (ofill_via w2 l d dead (fun v w3 => v = .nilIface ∧ ∃ ρ3, Turn w2 w3 ρ2 ρ3 ∧ DK w0 w3 d ρ3 ((s.madeG x.name f).putG f ⟨s.created, [], []⟩ x.bytes)) x L2.lb Av x.bytes.length cv hpos (by omega) hva ?_).mono ?_
    · intro w3 hb3
      refine (append_okG w0 w3 d ρ2 (s.madeG x.name f) (L2.then hb3).dk (s2.small (by rw [ar1]; decide) (by rw [ar1]; decide) (by omega) (by omega) (by omega) (by omega) (by omega) (by decide) (by decide) (by omega)) x.name hr f ⟨s.created, [], []⟩ (by rw [s2.D]; exact hp f) hφ2 hc0 (by show s.created ≤ _; omega) (by simp) x.val x.bytes (V2.below hb3) (F2 hb0) (by show 0 + x.bytes.length ≤ _; omega) (by rw [s2.q]; omega)).mono ?_
      rintro e w4 ⟨rfl, ρ4, hd4, ht4, _⟩
      exact ⟨_, rfl, rfl, ρ4, (Turn.of_belowA ρ2 hb3).trans ht4, hd4⟩
    rintro e w3 ⟨_, rfl, rfl, ρ3, T3, hd3⟩
    refine .inl ⟨rfl, hkeep T3 hg2' rg2, ?_⟩
    have L3 := L2.turn hd3 T3
    have rg3 := T3.off hg2' rg2
    have hg3' : g < w3.heap.size := Nat.lt_of_lt_of_le hg2' T3.1.size
    have s3 := s2.putG f ⟨s.created, [], []⟩ x.bytes
    have hφ3 : ((s.madeG x.name f).putG f ⟨s.created, [], []⟩ x.bytes).φ f = some ⟨s.created, x.bytes, [.put 0 x.bytes.length]⟩ := if_pos rfl
    -- made sure
    refine RunsG.step _ _ (by intros; kernel_rfl) ?_
    refine (osync_via w3 l d dead (fun v w4 => v = .nilIface ∧ Turn w3 w4 ρ3 ρ3 ∧ DK w0 w4 d ρ3 (s.replaced x.name x.bytes f)) x L3.lb ?_).mono ?_
    · intro w4 hb4
      refine (sync_ok w0 w4 d ρ3 _ (L3.then hb4).dk s3.off (by rw [s3.ar]; decide) (by rw [s3.ar]; decide) (by rw [s3.st]; omega) (by rw [s3.st]; omega) (by rw [s3.op]; omega) x.name hr f ⟨s.created, x.bytes, [.put 0 x.bytes.length]⟩ (by rw [s3.D]; exact hp f) hφ3 hc0 (by show s.created ≤ _; omega) (by rw [s3.op]; show ((1 : Nat) : Int) ≤ _; omega)).mono ?_
      rintro e w5 ⟨rfl, hd5, ht5⟩
      exact ⟨_, rfl, rfl, (Turn.of_belowA ρ3 hb4).trans ht5, hd5⟩
    rintro e w4 ⟨_, rfl, rfl, T4, hd4⟩
    refine .inl ⟨rfl, hkeep T4 hg3' rg3, rfl, ρ3, f, ((T1.trans T2).trans T3).trans T4, Nat.le_trans hbl1.size hf2, L3.turn hd4 T4⟩
  rintro e w' ⟨_, rfl, rfl, hq⟩
  exact ⟨rfl, hq⟩
end
end Go.Proofs.YthhnlkbjpahjeaaGreatDoor

end
