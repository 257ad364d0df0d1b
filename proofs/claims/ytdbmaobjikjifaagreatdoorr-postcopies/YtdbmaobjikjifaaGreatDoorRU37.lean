/- Package post: Step. -/
import Derived.Test.YtdbmaobjikjifaaGreatDoorRU35
import Derived.Laws.Tables
set_option linter.unusedVariables false
set_option linter.unusedSimpArgs false
namespace Go.Proofs.YtdbmaobjikjifaaGreatDoorR
open Go.RowKit Go.Shelf
theorem step_store_row {P : Program} {tm : Array Value} {ops : Array Oper} {o : Oper} {a : Act} {w : World} {K : Act → World → Prop} {Q : Exit → Act → World → Prop} {E : Prop} (hgd : o.guard = none) (ty : TypeId) (x y : Operand) (ho : o.op = .store ty x y)
    (g : Nat) (cells : Array Value) (hx : a.eval x = .pointer (some ⟨g, 0, none⟩)) (hy : a.eval y = .agg cells) (t : TypeId) (old : Array Value) (hg : w.heap[g]? = some (.cells old t (0, 0))) (hi : (P.info? ty).map (·.size) = some cells.size)
    (hold : old.size = cells.size) (h1 : cells.all (·.oneCell') = true) (h : K (a.put o.dst undef) (w.setRow g cells)) : if Region.wanted o (yielded ops tm) = true then Oper.wp P o a w K Q else E := by
  rw [if_pos (by simp [Region.wanted, hgd])]
  exact wp_store_row ty x y ho g cells hx hy t old hg hi hold h1 h
theorem row_blk {w : World} {g : Nat} {old cs : Array Value} {t : TypeId} (h : Blk w g old t) : Blk (w.setRow g cs) g cs t := by
  unfold Blk at *
  unfold World.setRow
  simp [Array.getElem?_modify, h]
theorem row_mvs (w : World) (g : Nat) (cs : Array Value) : Mvs (fun k => k = g) w (w.setRow g cs) :=
  ⟨rfl, rfl, rfl, by simp [World.setRow], fun k hk hne => by unfold World.setRow; simp only [Array.getElem?_modify]; rw [if_neg (fun e => hne e.symm)]⟩
theorem row_below {w1 w : World} {g : Nat} {cs : Array Value} (h : Below w1.heap.size w1 w) (hg : w1.heap.size ≤ g) : Below w1.heap.size w1 (w.setRow g cs) :=
  h.trans ((row_mvs w g cs).below (fun k hk e => by omega) h.size)
/-- An actor, out of a state of one's own. -/
theorem as_make {w1 w2 Wf : World} {X M : Nat} {s : Stt} {a : Ac} {vb vs vq uv fv : Value} {gb gs gq : Option Nat} {lb : List BL} {lq : List QL} (hos : OS w2 M s vb vs vq gb gs gq lb lq) (hM : w1.heap.size ≤ M) (hm : Mvs (fun k => k = X) w2 Wf) (hb : Below w1.heap.size w1 Wf) (hk : Blk Wf X (PA.cells ⟨lb, vb, gb, s.subs, vs, gs, lq, vq, gq, s.nextValid, s.nextItem, a, uv, fv, [], .slice none 0 0, none, 0⟩) 59) (hX : w1.heap.size ≤ X) (hne : w2.heap.size ≤ X ∨ X < M) (hu : RdE 1 IntAt w1 uv a.uids) (hf : RdE 1 IntAt w1 fv a.fr) :
    AS w1 Wf X ⟨lb, vb, gb, s.subs, vs, gs, lq, vq, gq, s.nextValid, s.nextItem, a, uv, fv, [], .slice none 0 0, none, 0⟩ := by
  have ho : ∀ g, some g ∈ gb :: gs :: gq :: (lb.map BL.G ++ lq.map QL.G) → M ≤ g ∧ g ≠ X := fun g hg => by
    have := hos.own g hg
    exact ⟨this.1, fun e => by rcases hne with h | h <;> omega⟩
  have hin : ∀ b ∈ gb :: gs :: gq :: (lb.map BL.G ++ lq.map QL.G), ∀ g, b = some g → ¬ g = X := fun b hb g e => by subst e; exact (ho g hb).2
  have hlb : ∀ y ∈ lb, y.G ∈ gb :: gs :: gq :: (lb.map BL.G ++ lq.map QL.G) := fun y hy => by simp; right; right; right; left; exact ⟨y, hy, rfl⟩
  have hlq : ∀ y ∈ lq, y.G ∈ gb :: gs :: gq :: (lb.map BL.G ++ lq.map QL.G) := fun y hy => by simp; right; right; right; right; exact ⟨y, hy, rfl⟩
  refine ⟨hb, hX, hk, hos.rb.keep hm (hin _ (by simp)), hos.rs.keep hm (hin _ (by simp)), hos.rq.keep hm (hin _ (by simp)), Rw.nil _ _, fun x hx => (hos.rm x hx).keep hm (hin _ (hlb x hx)), fun x hx => (hos.rf x hx).keep hm (hin _ (hlq x hx)), fun g hg => ?_, ?_, hu, hf⟩
  · have hg' : some g ∈ gb :: gs :: gq :: (lb.map BL.G ++ lq.map QL.G) := by
      unfold PA.blocks at hg
      simp only [List.mem_cons] at hg ⊢
      rcases hg with e | e | e | e | e
      · exact .inl e
      · exact .inr (.inl e)
      · exact .inr (.inr (.inl e))
      · cases e
      · exact .inr (.inr (.inr e))
    exact ⟨Nat.le_trans hM (ho g hg').1, (ho g hg').2⟩
  · have h := hos.sep
    unfold Sep PA.blocks at *
    simp only [List.pairwise_cons] at h ⊢
    obtain ⟨h1, h2, h3, h4⟩ := h
    refine ⟨fun b hb g e e' => ?_, fun b hb g e e' => ?_, fun b hb g e e' => ?_, fun b hb g e => (by cases e), h4⟩
    · subst e'
      refine h1 (some g) ?_ g e rfl
      simp only [List.mem_cons] at hb ⊢
      rcases hb with e | e | e | e
      · exact .inl e
      · exact .inr (.inl e)
      · cases e
      · exact .inr (.inr e)
    · subst e'
      refine h2 (some g) ?_ g e rfl
      simp only [List.mem_cons] at hb ⊢
      rcases hb with e | e | e
      · exact .inl e
      · cases e
      · exact .inr e
    · subst e'
      refine h3 (some g) ?_ g e rfl
      simp only [List.mem_cons] at hb
      rcases hb with e | e
      · cases e
      · exact e
set_option maxRecDepth 20000 in
set_option maxHeartbeats 16000000 in
theorem pstep_yes {w : World} {sv av : Value} {s : Stt} {a : Ac} {ea : Nat → Addr} (hE : Errs w ea) (hS : StR w sv s) (hA : AcR w av a) (hd : BdS s) (hform : poForm s = true) (R : Stt → List Int → Int → Prop)
    (HAct : ∀ w0 W X p, Below w.heap.size w w0 → AS w0 W X p → p.st = s → p.a = a → p.us = [] → p.n = 0 → Calls Tryz.prog 14 #[.pointer (some ⟨X, 0, none⟩)] W fun e w' => e = .returned .nilIface ∧ ∃ t us n, FS w0 w' X t us n ∧ R t us n) :
    Calls Tryz.prog 8 #[sv, av] w fun e w' => ∃ tv uv n t us, e = .returned (.tuple #[tv, .agg #[uv, .int .i64 n], .nilIface]) ∧ Below w.heap.size w w' ∧ R t us n ∧ (∀ w2, Mvs (fun k => k < w.heap.size) w' w2 → StR w2 tv t ∧ RdE 1 IntAt w2 uv us) := by
  have hv := hS
  obtain ⟨bv, sv', qv, rfl, hb, hs, hq⟩ := hS
  obtain ⟨Ab, cb, rfl⟩ := hb.form
  obtain ⟨As, cs, rfl⟩ := hs.form
  obtain ⟨Aq, cq, rfl⟩ := hq.form
  obtain ⟨uv, fv, rfl, hu, hf⟩ := hA
  obtain ⟨Au, cu, rfl⟩ := hu.form
  obtain ⟨Af, cf, rfl⟩ := hf.form
  clear hb hs hq
  have HU := hide hu
  have HFr := hide hf
  clear hu hf
  obtain ⟨nb, hnb⟩ : ∃ nb, Hid (s.boxes.length = nb) := ⟨_, hide rfl⟩
  obtain ⟨ns, hns⟩ : ∃ ns, Hid (s.subs.length = ns) := ⟨_, hide rfl⟩
  obtain ⟨nq, hnq⟩ : ∃ nq, Hid (s.queue.length = nq) := ⟨_, hide rfl⟩
  obtain ⟨nu, hnu⟩ : ∃ nu, Hid (a.uids.length = nu) := ⟨_, hide rfl⟩
  obtain ⟨nf, hnf⟩ : ∃ nf, Hid (a.fr.length = nf) := ⟨_, hide rfl⟩
  rw [hnb.out, hns.out, hnq.out] at hv
  rw [hnb.out, hns.out, hnq.out, hnu.out, hnf.out]
  rw [hnu.out] at HU
  rw [hnf.out] at HFr
  have hB0 : Hid (Below w.heap.size w ((((w.alloc (.cells #[.slice Ab nb cb, .slice As ns cs, .slice Aq nq cq, .int .i64 s.nextValid, .int .i64 s.nextItem] 28)).alloc (.cells #[.int .i64 a.kind, .int .i64 a.user, .int .i64 a.n, .int .i64 a.how, .int .i64 a.flags, .int .i64 a.date, .string ⟨a.name.toArray⟩, .string ⟨a.dst.toArray⟩, .string ⟨a.frm.toArray⟩, .string ⟨a.body.toArray⟩, .slice Au nu cu, .slice Af nf cf] 36)).alloc (.cells #[.slice none 0 0, .slice none 0 0, .slice none 0 0, .int .i64 0, .int .i64 0] 28)).alloc (.cells #[.slice none 0 0, .int .i64 0] 39))) := ((((Below.refl w.heap.size w).alloc (Nat.le_refl _) _).alloc (by simp) _).alloc (by simp; omega) _).alloc (by simp; omega) _
  have hK0 : Hid (Blk ((((w.alloc (.cells #[.slice Ab nb cb, .slice As ns cs, .slice Aq nq cq, .int .i64 s.nextValid, .int .i64 s.nextItem] 28)).alloc (.cells #[.int .i64 a.kind, .int .i64 a.user, .int .i64 a.n, .int .i64 a.how, .int .i64 a.flags, .int .i64 a.date, .string ⟨a.name.toArray⟩, .string ⟨a.dst.toArray⟩, .string ⟨a.frm.toArray⟩, .string ⟨a.body.toArray⟩, .slice Au nu cu, .slice Af nf cf] 36)).alloc (.cells #[.slice none 0 0, .slice none 0 0, .slice none 0 0, .int .i64 0, .int .i64 0] 28)).alloc (.cells #[.slice none 0 0, .int .i64 0] 39)) w.heap.size #[.slice Ab nb cb, .slice As ns cs, .slice Aq nq cq, .int .i64 s.nextValid, .int .i64 s.nextItem] 28) := (((Blk.new w _ _).alloc _).alloc _).alloc _
  have hA0 : Hid (Blk ((((w.alloc (.cells #[.slice Ab nb cb, .slice As ns cs, .slice Aq nq cq, .int .i64 s.nextValid, .int .i64 s.nextItem] 28)).alloc (.cells #[.int .i64 a.kind, .int .i64 a.user, .int .i64 a.n, .int .i64 a.how, .int .i64 a.flags, .int .i64 a.date, .string ⟨a.name.toArray⟩, .string ⟨a.dst.toArray⟩, .string ⟨a.frm.toArray⟩, .string ⟨a.body.toArray⟩, .slice Au nu cu, .slice Af nf cf] 36)).alloc (.cells #[.slice none 0 0, .slice none 0 0, .slice none 0 0, .int .i64 0, .int .i64 0] 28)).alloc (.cells #[.slice none 0 0, .int .i64 0] 39)) (w.heap.size + 1) #[.int .i64 a.kind, .int .i64 a.user, .int .i64 a.n, .int .i64 a.how, .int .i64 a.flags, .int .i64 a.date, .string ⟨a.name.toArray⟩, .string ⟨a.dst.toArray⟩, .string ⟨a.frm.toArray⟩, .string ⟨a.body.toArray⟩, .slice Au nu cu, .slice Af nf cf] 36) := ((Blk.new1 w _ _ _).alloc _).alloc _
  have hZ0 : Hid (Blk ((((w.alloc (.cells #[.slice Ab nb cb, .slice As ns cs, .slice Aq nq cq, .int .i64 s.nextValid, .int .i64 s.nextItem] 28)).alloc (.cells #[.int .i64 a.kind, .int .i64 a.user, .int .i64 a.n, .int .i64 a.how, .int .i64 a.flags, .int .i64 a.date, .string ⟨a.name.toArray⟩, .string ⟨a.dst.toArray⟩, .string ⟨a.frm.toArray⟩, .string ⟨a.body.toArray⟩, .slice Au nu cu, .slice Af nf cf] 36)).alloc (.cells #[.slice none 0 0, .slice none 0 0, .slice none 0 0, .int .i64 0, .int .i64 0] 28)).alloc (.cells #[.slice none 0 0, .int .i64 0] 39)) (w.heap.size + 2) #[.slice none 0 0, .slice none 0 0, .slice none 0 0, .int .i64 0, .int .i64 0] 28) := by
    have := (Blk.new1 (w.alloc (.cells #[.slice Ab nb cb, .slice As ns cs, .slice Aq nq cq, .int .i64 s.nextValid, .int .i64 s.nextItem] 28)) (.cells #[.int .i64 a.kind, .int .i64 a.user, .int .i64 a.n, .int .i64 a.how, .int .i64 a.flags, .int .i64 a.date, .string ⟨a.name.toArray⟩, .string ⟨a.dst.toArray⟩, .string ⟨a.frm.toArray⟩, .string ⟨a.body.toArray⟩, .slice Au nu cu, .slice Af nf cf] 36) #[.slice none 0 0, .slice none 0 0, .slice none 0 0, .int .i64 0, .int .i64 0] 28).alloc (.cells #[.slice none 0 0, .int .i64 0] 39)
    rwa [World.size_alloc] at this
  have hY0 : Hid (Blk ((((w.alloc (.cells #[.slice Ab nb cb, .slice As ns cs, .slice Aq nq cq, .int .i64 s.nextValid, .int .i64 s.nextItem] 28)).alloc (.cells #[.int .i64 a.kind, .int .i64 a.user, .int .i64 a.n, .int .i64 a.how, .int .i64 a.flags, .int .i64 a.date, .string ⟨a.name.toArray⟩, .string ⟨a.dst.toArray⟩, .string ⟨a.frm.toArray⟩, .string ⟨a.body.toArray⟩, .slice Au nu cu, .slice Af nf cf] 36)).alloc (.cells #[.slice none 0 0, .slice none 0 0, .slice none 0 0, .int .i64 0, .int .i64 0] 28)).alloc (.cells #[.slice none 0 0, .int .i64 0] 39)) (w.heap.size + 3) #[.slice none 0 0, .int .i64 0] 39) := by
    have := Blk.new1 ((w.alloc (.cells #[.slice Ab nb cb, .slice As ns cs, .slice Aq nq cq, .int .i64 s.nextValid, .int .i64 s.nextItem] 28)).alloc (.cells #[.int .i64 a.kind, .int .i64 a.user, .int .i64 a.n, .int .i64 a.how, .int .i64 a.flags, .int .i64 a.date, .string ⟨a.name.toArray⟩, .string ⟨a.dst.toArray⟩, .string ⟨a.frm.toArray⟩, .string ⟨a.body.toArray⟩, .slice Au nu cu, .slice Af nf cf] 36)) (.cells #[.slice none 0 0, .slice none 0 0, .slice none 0 0, .int .i64 0, .int .i64 0] 28) #[.slice none 0 0, .int .i64 0] 39
    rwa [World.size_alloc, World.size_alloc] at this
  have H1 := hide (pform_any (hE.below hB0.out).name (hv.below hB0.out) hd)
  rw [hform] at H1
  have q0 := hK0.out.cell 0
  go_enter Tryz.func8, Tryz.ntmps8
  go_upto_region 3 with (go_at_call 12; refine H1.out.mono ?_; rintro e w1 ⟨rfl, hb1⟩; replace hb1 := hide hb1)
  have HBw : Hid (Below w.heap.size w w1) := hB0.out.trans (hb1.out.mono hB0.out.size)
  have HStr : Hid (∀ W, Below w1.heap.size w1 W → StR W (.agg #[.slice Ab nb cb, .slice As ns cs, .slice Aq nq cq, .int .i64 s.nextValid, .int .i64 s.nextItem]) s) := fun W hW => (hv.below HBw.out).below hW
  have HK1 := hide (hK0.out.below hb1.out hK0.out.lt)
  have HA1 := hide (hA0.out.below hb1.out hA0.out.lt)
  have HZ1 := hide (hZ0.out.below hb1.out hZ0.out.lt)
  have HY1 := hide (hY0.out.below hb1.out hY0.out.lt)
  have HBL : Below w1.heap.size w1 w1.drew := (Below.refl _ _).drew
  clear H1 hb1 hK0 hA0 hZ0 hY0 hB0 hv q0
  go_cut [7] from 9 (fun v7 wq => ∃ (X : Nat) (p : PA), v7 = .pointer (some ⟨X, 0, none⟩) ∧ Hid (AS w1 wq X p) ∧ Hid (p.st = s ∧ p.a = a ∧ p.us = [] ∧ p.n = 0))
  case first =>
    refine regionL 5 (fun W => Blk W w.heap.size #[.slice Ab nb cb, .slice As ns cs, .slice Aq nq cq, .int .i64 s.nextValid, .int .i64 s.nextItem] 28 ∧ Blk W (w.heap.size + 1) #[.int .i64 a.kind, .int .i64 a.user, .int .i64 a.n, .int .i64 a.how, .int .i64 a.flags, .int .i64 a.date, .string ⟨a.name.toArray⟩, .string ⟨a.dst.toArray⟩, .string ⟨a.frm.toArray⟩, .string ⟨a.body.toArray⟩, .slice Au nu cu, .slice Af nf cf] 36) (by kernel_rfl) ?_
    have HT0 : Blk w1.drew w.heap.size #[.slice Ab nb cb, .slice As ns cs, .slice Aq nq cq, .int .i64 s.nextValid, .int .i64 s.nextItem] 28 ∧ Blk w1.drew (w.heap.size + 1) #[.int .i64 a.kind, .int .i64 a.user, .int .i64 a.n, .int .i64 a.how, .int .i64 a.flags, .int .i64 a.date, .string ⟨a.name.toArray⟩, .string ⟨a.dst.toArray⟩, .string ⟨a.frm.toArray⟩, .string ⟨a.body.toArray⟩, .slice Au nu cu, .slice Af nf cf] 36 := ⟨HK1.out, HA1.out⟩
    refine takeL (i := 0) (v := .agg #[.slice Ab nb cb, .slice As ns cs, .slice Aq nq cq, .int .i64 s.nextValid, .int .i64 s.nextItem]) rfl (by kernel_rfl) (by kernel_rfl) (by kernel_rfl) (by kernel_rfl) (by kernel_rfl) (fun _ _ _ h => h) HT0 (Or.inl ⟨by rfl, fun W hW => by have t0 := hW.1.cell 0; have t1 := hW.1.cell 1; have t2 := hW.1.cell 2; have t3 := hW.1.cell 3; have t4 := hW.1.cell 4; go_simp⟩) ?_
    try simp only [Act.put, List.getElem_toArray, List.getElem_cons_succ, List.getElem_cons_zero, List.setIfInBounds_toArray, List.set_cons_zero, List.set_cons_succ]
    refine takeL (i := 2) (v := .agg #[.int .i64 a.kind, .int .i64 a.user, .int .i64 a.n, .int .i64 a.how, .int .i64 a.flags, .int .i64 a.date, .string ⟨a.name.toArray⟩, .string ⟨a.dst.toArray⟩, .string ⟨a.frm.toArray⟩, .string ⟨a.body.toArray⟩, .slice Au nu cu, .slice Af nf cf]) rfl (by kernel_rfl) (by kernel_rfl) (by kernel_rfl) (by kernel_rfl) (by kernel_rfl) (fun _ _ _ h => h) HT0 (Or.inl ⟨by rfl, fun W hW => by have t0 := hW.2.cell 0; have t1 := hW.2.cell 1; have t2 := hW.2.cell 2; have t3 := hW.2.cell 3; have t4 := hW.2.cell 4; have t5 := hW.2.cell 5; have t6 := hW.2.cell 6; have t7 := hW.2.cell 7; have t8 := hW.2.cell 8; have t9 := hW.2.cell 9; have t10 := hW.2.cell 10; have t11 := hW.2.cell 11; go_simp⟩) ?_
    try simp only [Act.put, List.getElem_toArray, List.getElem_cons_succ, List.getElem_cons_zero, List.setIfInBounds_toArray, List.set_cons_zero, List.set_cons_succ]
    refine readyL (rs := [1, 4]) (by kernel_rfl) (by simp) ?_
    refine AllL.cons rfl (fun K hK => ?_) (AllL.cons rfl (fun K hK => ?_) AllL.nil)
    · skip
      try simp only [List.getElem_toArray, List.getElem_cons_succ, List.getElem_cons_zero]
      go_simp
      refine (pcopied_any (w := w1.drew) (v := .agg #[.slice Ab nb cb, .slice As ns cs, .slice Aq nq cq, .int .i64 s.nextValid, .int .i64 s.nextItem]) (HStr.out _ HBL) hd).mono ?_
      rintro e w2 ⟨vb, vs, vq, gb, gs, gq, lb, lq, rfl, hb2, hos⟩
      obtain ⟨Bb, db, rfl⟩ := hos.rb.form
      obtain ⟨Bs, ds, rfl⟩ := hos.rs.form
      obtain ⟨Bq, dq, rfl⟩ := hos.rq.form
      have HBL2 : Below w1.heap.size w1 w2 := HBL.trans (hb2.mono HBL.size)
      have HT1 : Blk w2 w.heap.size #[.slice Ab nb cb, .slice As ns cs, .slice Aq nq cq, .int .i64 s.nextValid, .int .i64 s.nextItem] 28 ∧ Blk w2 (w.heap.size + 1) #[.int .i64 a.kind, .int .i64 a.user, .int .i64 a.n, .int .i64 a.how, .int .i64 a.flags, .int .i64 a.date, .string ⟨a.name.toArray⟩, .string ⟨a.dst.toArray⟩, .string ⟨a.frm.toArray⟩, .string ⟨a.body.toArray⟩, .slice Au nu cu, .slice Af nf cf] 36 := ⟨HK1.out.below HBL2 HK1.out.lt, HA1.out.below HBL2 HA1.out.lt⟩
      refine hK.out _ _ (fun _ => HT1) (fun _ => ?_)
      clear hK K HT0
      have HT0 := HT1
      clear HT1
      try simp only [Act.put, List.getElem_toArray, List.getElem_cons_succ, List.getElem_cons_zero, List.setIfInBounds_toArray, List.set_cons_zero, List.set_cons_succ]
      refine takeW (i := 3) (v := .agg #[.slice Bb lb.length db, .slice Bs s.subs.length ds, .slice Bq lq.length dq, .int .i64 s.nextValid, .int .i64 s.nextItem, .int .i64 a.kind, .int .i64 a.user, .int .i64 a.n, .int .i64 a.how, .int .i64 a.flags, .int .i64 a.date, .string ⟨a.name.toArray⟩, .string ⟨a.dst.toArray⟩, .string ⟨a.frm.toArray⟩, .string ⟨a.body.toArray⟩, .slice Au nu cu, .slice Af nf cf, .slice none 0 0, .int .i64 0]) rfl (by kernel_rfl) (by kernel_rfl) (by kernel_rfl) rfl (fun _ _ _ h => h) (fun _ => HT0) (Or.inl ⟨by rfl, fun W _ => by go_simp⟩) ?_
      try simp only [Act.put, List.getElem_toArray, List.getElem_cons_succ, List.getElem_cons_zero, List.setIfInBounds_toArray, List.set_cons_zero, List.set_cons_succ]
      refine readyL (rs := [4]) (by kernel_rfl) (by simp) ?_
      refine AllL.cons rfl (fun K hK => ?_) AllL.nil
      try simp only [List.getElem_toArray, List.getElem_cons_succ, List.getElem_cons_zero]
      go_simp
      refine hK.out _ _ (fun _ => ⟨HT0.1.alloc _, HT0.2.alloc _⟩) (fun _ => ?_)
      clear hK K
      try simp only [Act.put, List.getElem_toArray, List.getElem_cons_succ, List.getElem_cons_zero, List.setIfInBounds_toArray, List.set_cons_zero, List.set_cons_succ]
      have HDz : Blk (w2.alloc (.cells #[.slice none 0 0, .slice none 0 0, .slice none 0 0, .int .i64 0, .int .i64 0, .int .i64 0, .int .i64 0, .int .i64 0, .int .i64 0, .int .i64 0, .int .i64 0, .string ⟨#[]⟩, .string ⟨#[]⟩, .string ⟨#[]⟩, .string ⟨#[]⟩, .slice none 0 0, .slice none 0 0, .slice none 0 0, .int .i64 0] 59)) (w2.heap.size) #[.slice none 0 0, .slice none 0 0, .slice none 0 0, .int .i64 0, .int .i64 0, .int .i64 0, .int .i64 0, .int .i64 0, .int .i64 0, .int .i64 0, .int .i64 0, .string ⟨#[]⟩, .string ⟨#[]⟩, .string ⟨#[]⟩, .string ⟨#[]⟩, .slice none 0 0, .slice none 0 0, .slice none 0 0, .int .i64 0] 59 := Blk.new _ _ _
      have HBz : Below w1.heap.size w1 (w2.alloc (.cells #[.slice none 0 0, .slice none 0 0, .slice none 0 0, .int .i64 0, .int .i64 0, .int .i64 0, .int .i64 0, .int .i64 0, .int .i64 0, .int .i64 0, .int .i64 0, .string ⟨#[]⟩, .string ⟨#[]⟩, .string ⟨#[]⟩, .string ⟨#[]⟩, .slice none 0 0, .slice none 0 0, .slice none 0 0, .int .i64 0] 59)) := HBL2.alloc HBL2.size _
      refine readyL (rs := [5]) (by kernel_rfl) (by simp) ?_
      refine AllL.cons rfl (fun K hK => ?_) AllL.nil
      refine step_store_row (by rfl) 59 (.tmp 7) (.tmp 18) (by rfl) (w2.heap.size) #[.slice Bb lb.length db, .slice Bs s.subs.length ds, .slice Bq lq.length dq, .int .i64 s.nextValid, .int .i64 s.nextItem, .int .i64 a.kind, .int .i64 a.user, .int .i64 a.n, .int .i64 a.how, .int .i64 a.flags, .int .i64 a.date, .string ⟨a.name.toArray⟩, .string ⟨a.dst.toArray⟩, .string ⟨a.frm.toArray⟩, .string ⟨a.body.toArray⟩, .slice Au nu cu, .slice Af nf cf, .slice none 0 0, .int .i64 0] (by simp [Act.eval, Act.put]) (by simp [Act.eval, Act.put]) 59 #[.slice none 0 0, .slice none 0 0, .slice none 0 0, .int .i64 0, .int .i64 0, .int .i64 0, .int .i64 0, .int .i64 0, .int .i64 0, .int .i64 0, .int .i64 0, .string ⟨#[]⟩, .string ⟨#[]⟩, .string ⟨#[]⟩, .string ⟨#[]⟩, .slice none 0 0, .slice none 0 0, .slice none 0 0, .int .i64 0] HDz (by kernel_rfl) rfl (by simp [Value.oneCell']) ?_
      refine hK.out _ _ (vac (by kernel_rfl)) (fun _ => ?_)
      clear hK K HT0
      try simp only [Act.put, List.getElem_toArray, List.getElem_cons_succ, List.getElem_cons_zero, List.setIfInBounds_toArray, List.set_cons_zero, List.set_cons_succ]
      refine doneL (by kernel_rfl) ?_ _
      go_wp2
      go_meet
      case rel => exact ⟨_, ⟨lb, .slice Bb lb.length db, gb, s.subs, .slice Bs s.subs.length ds, gs, lq, .slice Bq lq.length dq, gq, s.nextValid, s.nextItem, a, .slice Au nu cu, .slice Af nf cf, [], .slice none 0 0, none, 0⟩, rfl, as_make hos (by have := HBL.size; show w1.heap.size ≤ w1.heap.size + 2; omega) (((Mvs.refl (fun k => k = w2.heap.size) w2).alloc _).trans (row_mvs _ _ _)) (row_below HBz (show w1.heap.size ≤ w2.heap.size by have := HBL2.size; omega)) (row_blk HDz) (by have := HBL2.size; omega) (.inl (Nat.le_refl _)) (HU.out.below stb_int HBw.out) (HFr.out.below stb_int HBw.out), by unfold PA.st; rw [hos.boxes, hos.queue], rfl, rfl, rfl⟩
    · skip
      try simp only [List.getElem_toArray, List.getElem_cons_succ, List.getElem_cons_zero]
      go_simp
      refine hK.out _ _ (fun _ => ⟨HT0.1.alloc _, HT0.2.alloc _⟩) (fun _ => ?_)
      clear hK K
      have HT1 : Blk (w1.drew.alloc (.cells #[.slice none 0 0, .slice none 0 0, .slice none 0 0, .int .i64 0, .int .i64 0, .int .i64 0, .int .i64 0, .int .i64 0, .int .i64 0, .int .i64 0, .int .i64 0, .string ⟨#[]⟩, .string ⟨#[]⟩, .string ⟨#[]⟩, .string ⟨#[]⟩, .slice none 0 0, .slice none 0 0, .slice none 0 0, .int .i64 0] 59)) w.heap.size #[.slice Ab nb cb, .slice As ns cs, .slice Aq nq cq, .int .i64 s.nextValid, .int .i64 s.nextItem] 28 ∧ Blk (w1.drew.alloc (.cells #[.slice none 0 0, .slice none 0 0, .slice none 0 0, .int .i64 0, .int .i64 0, .int .i64 0, .int .i64 0, .int .i64 0, .int .i64 0, .int .i64 0, .int .i64 0, .string ⟨#[]⟩, .string ⟨#[]⟩, .string ⟨#[]⟩, .string ⟨#[]⟩, .slice none 0 0, .slice none 0 0, .slice none 0 0, .int .i64 0] 59)) (w.heap.size + 1) #[.int .i64 a.kind, .int .i64 a.user, .int .i64 a.n, .int .i64 a.how, .int .i64 a.flags, .int .i64 a.date, .string ⟨a.name.toArray⟩, .string ⟨a.dst.toArray⟩, .string ⟨a.frm.toArray⟩, .string ⟨a.body.toArray⟩, .slice Au nu cu, .slice Af nf cf] 36 := ⟨HT0.1.alloc _, HT0.2.alloc _⟩
      clear HT0
      have HT0 := HT1
      clear HT1
      replace HBL : Below w1.heap.size w1 (w1.drew.alloc (.cells #[.slice none 0 0, .slice none 0 0, .slice none 0 0, .int .i64 0, .int .i64 0, .int .i64 0, .int .i64 0, .int .i64 0, .int .i64 0, .int .i64 0, .int .i64 0, .string ⟨#[]⟩, .string ⟨#[]⟩, .string ⟨#[]⟩, .string ⟨#[]⟩, .slice none 0 0, .slice none 0 0, .slice none 0 0, .int .i64 0] 59)) := HBL.alloc HBL.size _
      try simp only [Act.put, List.getElem_toArray, List.getElem_cons_succ, List.getElem_cons_zero, List.setIfInBounds_toArray, List.set_cons_zero, List.set_cons_succ]
      refine readyL (rs := [1]) (by kernel_rfl) (by simp) ?_
      refine AllL.cons rfl (fun K hK => ?_) AllL.nil
      try simp only [List.getElem_toArray, List.getElem_cons_succ, List.getElem_cons_zero]
      go_simp
      refine (pcopied_any (w := (w1.drew.alloc (.cells #[.slice none 0 0, .slice none 0 0, .slice none 0 0, .int .i64 0, .int .i64 0, .int .i64 0, .int .i64 0, .int .i64 0, .int .i64 0, .int .i64 0, .int .i64 0, .string ⟨#[]⟩, .string ⟨#[]⟩, .string ⟨#[]⟩, .string ⟨#[]⟩, .slice none 0 0, .slice none 0 0, .slice none 0 0, .int .i64 0] 59))) (v := .agg #[.slice Ab nb cb, .slice As ns cs, .slice Aq nq cq, .int .i64 s.nextValid, .int .i64 s.nextItem]) (HStr.out _ HBL) hd).mono ?_
      rintro e w2 ⟨vb, vs, vq, gb, gs, gq, lb, lq, rfl, hb2, hos⟩
      obtain ⟨Bb, db, rfl⟩ := hos.rb.form
      obtain ⟨Bs, ds, rfl⟩ := hos.rs.form
      obtain ⟨Bq, dq, rfl⟩ := hos.rq.form
      have HBL2 : Below w1.heap.size w1 w2 := HBL.trans (hb2.mono HBL.size)
      have HT1 : Blk w2 w.heap.size #[.slice Ab nb cb, .slice As ns cs, .slice Aq nq cq, .int .i64 s.nextValid, .int .i64 s.nextItem] 28 ∧ Blk w2 (w.heap.size + 1) #[.int .i64 a.kind, .int .i64 a.user, .int .i64 a.n, .int .i64 a.how, .int .i64 a.flags, .int .i64 a.date, .string ⟨a.name.toArray⟩, .string ⟨a.dst.toArray⟩, .string ⟨a.frm.toArray⟩, .string ⟨a.body.toArray⟩, .slice Au nu cu, .slice Af nf cf] 36 := ⟨HK1.out.below HBL2 HK1.out.lt, HA1.out.below HBL2 HA1.out.lt⟩
      refine hK.out _ _ (fun _ => HT1) (fun _ => ?_)
      clear hK K HT0
      have HT0 := HT1
      clear HT1
      try simp only [Act.put, List.getElem_toArray, List.getElem_cons_succ, List.getElem_cons_zero, List.setIfInBounds_toArray, List.set_cons_zero, List.set_cons_succ]
      refine takeW (i := 3) (v := .agg #[.slice Bb lb.length db, .slice Bs s.subs.length ds, .slice Bq lq.length dq, .int .i64 s.nextValid, .int .i64 s.nextItem, .int .i64 a.kind, .int .i64 a.user, .int .i64 a.n, .int .i64 a.how, .int .i64 a.flags, .int .i64 a.date, .string ⟨a.name.toArray⟩, .string ⟨a.dst.toArray⟩, .string ⟨a.frm.toArray⟩, .string ⟨a.body.toArray⟩, .slice Au nu cu, .slice Af nf cf, .slice none 0 0, .int .i64 0]) rfl (by kernel_rfl) (by kernel_rfl) (by kernel_rfl) rfl (fun _ _ _ h => h) (fun _ => HT0) (Or.inl ⟨by rfl, fun W _ => by go_simp⟩) ?_
      try simp only [Act.put, List.getElem_toArray, List.getElem_cons_succ, List.getElem_cons_zero, List.setIfInBounds_toArray, List.set_cons_zero, List.set_cons_succ]
      have HDz : Blk (w2) (w1.heap.size) #[.slice none 0 0, .slice none 0 0, .slice none 0 0, .int .i64 0, .int .i64 0, .int .i64 0, .int .i64 0, .int .i64 0, .int .i64 0, .int .i64 0, .int .i64 0, .string ⟨#[]⟩, .string ⟨#[]⟩, .string ⟨#[]⟩, .string ⟨#[]⟩, .slice none 0 0, .slice none 0 0, .slice none 0 0, .int .i64 0] 59 := ((Blk.new w1.drew _ _).below hb2 (Blk.new w1.drew _ _).lt)
      have HBz : Below w1.heap.size w1 (w2) := HBL2
      refine readyL (rs := [5]) (by kernel_rfl) (by simp) ?_
      refine AllL.cons rfl (fun K hK => ?_) AllL.nil
      refine step_store_row (by rfl) 59 (.tmp 7) (.tmp 18) (by rfl) (w1.heap.size) #[.slice Bb lb.length db, .slice Bs s.subs.length ds, .slice Bq lq.length dq, .int .i64 s.nextValid, .int .i64 s.nextItem, .int .i64 a.kind, .int .i64 a.user, .int .i64 a.n, .int .i64 a.how, .int .i64 a.flags, .int .i64 a.date, .string ⟨a.name.toArray⟩, .string ⟨a.dst.toArray⟩, .string ⟨a.frm.toArray⟩, .string ⟨a.body.toArray⟩, .slice Au nu cu, .slice Af nf cf, .slice none 0 0, .int .i64 0] (by simp [Act.eval, Act.put]) (by simp [Act.eval, Act.put]) 59 #[.slice none 0 0, .slice none 0 0, .slice none 0 0, .int .i64 0, .int .i64 0, .int .i64 0, .int .i64 0, .int .i64 0, .int .i64 0, .int .i64 0, .int .i64 0, .string ⟨#[]⟩, .string ⟨#[]⟩, .string ⟨#[]⟩, .string ⟨#[]⟩, .slice none 0 0, .slice none 0 0, .slice none 0 0, .int .i64 0] HDz (by kernel_rfl) rfl (by simp [Value.oneCell']) ?_
      refine hK.out _ _ (vac (by kernel_rfl)) (fun _ => ?_)
      clear hK K HT0
      try simp only [Act.put, List.getElem_toArray, List.getElem_cons_succ, List.getElem_cons_zero, List.setIfInBounds_toArray, List.set_cons_zero, List.set_cons_succ]
      refine doneL (by kernel_rfl) ?_ _
      go_wp2
      go_meet
      case rel => exact ⟨_, ⟨lb, .slice Bb lb.length db, gb, s.subs, .slice Bs s.subs.length ds, gs, lq, .slice Bq lq.length dq, gq, s.nextValid, s.nextItem, a, .slice Au nu cu, .slice Af nf cf, [], .slice none 0 0, none, 0⟩, rfl, as_make hos (by have := HBL.size; simp; omega) (row_mvs _ _ _) (row_below HBz (show w1.heap.size ≤ w1.heap.size by have := HBL2.size; omega)) (row_blk HDz) (by have := HBL2.size; omega) (.inr (by simp; omega)) (HU.out.below stb_int HBw.out) (HFr.out.below stb_int HBw.out), by unfold PA.st; rw [hos.boxes, hos.queue], rfl, rfl, rfl⟩
  case rest =>
    obtain ⟨X, p, rfl, HS, hp1, hp2, hp3, hp4⟩ := hcut
    have HAc := hide (HAct w1 wc X p HBw.out HS.out hp1 hp2 hp3 hp4)
    clear HAct HK1 HA1 HStr HU HFr HBL
    go_upto_region 7 with (go_at_call 14; refine HAc.out.mono ?_; rintro e w5 ⟨rfl, t, us, n, hfs, hR⟩; replace hfs := hide hfs; replace hR := hide hR)
    obtain ⟨hf1, hf2, hf3, bv, sv, qv, uv, c0, c1, c2, c3, c4, c5, c6, hrd⟩ := hfs.out
    obtain ⟨⟨bv', sv', qv', hE2, hrb, hrs, hrq⟩, hru⟩ := hrd w5 (Mvs.refl _ _)
    simp only [Value.agg.injEq, Array.mk.injEq, List.cons.injEq, and_true] at hE2
    obtain ⟨rfl, rfl, rfl⟩ := hE2
    obtain ⟨Xb, xb, rfl⟩ := hrb.form
    obtain ⟨Xs, xs, rfl⟩ := hrs.form
    obtain ⟨Xq, xq, rfl⟩ := hrq.form
    obtain ⟨Xu, xu, rfl⟩ := hru.form
    have HZ5 := hide (HZ1.out.below hf1 HZ1.out.lt)
    have HY5 := hide (HY1.out.below hf1 HY1.out.lt)
    have hZl := HZ1.out.lt
    have hYl := HY1.out.lt
    replace hrd := hide hrd
    clear hrb hrs hrq hru HZ1 HY1
    refine regionL 5 (fun W => W.cell? ⟨X, 0, none⟩ = some (.slice Xb t.boxes.length xb) ∧ W.cell? ⟨X, 1, none⟩ = some (.slice Xs t.subs.length xs) ∧ W.cell? ⟨X, 2, none⟩ = some (.slice Xq t.queue.length xq) ∧ W.cell? ⟨X, 3, none⟩ = some (.int .i64 t.nextValid) ∧ W.cell? ⟨X, 4, none⟩ = some (.int .i64 t.nextItem) ∧ W.cell? ⟨X, 17, none⟩ = some (.slice Xu us.length xu) ∧ W.cell? ⟨X, 18, none⟩ = some (.int .i64 n)) (by kernel_rfl) ?_
    have HT0 : w5.drew.cell? ⟨X, 0, none⟩ = some (.slice Xb t.boxes.length xb) ∧ w5.drew.cell? ⟨X, 1, none⟩ = some (.slice Xs t.subs.length xs) ∧ w5.drew.cell? ⟨X, 2, none⟩ = some (.slice Xq t.queue.length xq) ∧ w5.drew.cell? ⟨X, 3, none⟩ = some (.int .i64 t.nextValid) ∧ w5.drew.cell? ⟨X, 4, none⟩ = some (.int .i64 t.nextItem) ∧ w5.drew.cell? ⟨X, 17, none⟩ = some (.slice Xu us.length xu) ∧ w5.drew.cell? ⟨X, 18, none⟩ = some (.int .i64 n) := ⟨c0, c1, c2, c3, c4, c5, c6⟩
    refine takeW (i := 0) (v := .pointer (some ⟨X, 0, none⟩)) rfl (by kernel_rfl) (by kernel_rfl) (by kernel_rfl) rfl (fun _ _ _ h => h) (fun _ => HT0) (Or.inl ⟨by rfl, fun W _ => by go_simp⟩) ?_
    try simp only [Act.put, List.getElem_toArray, List.getElem_cons_succ, List.getElem_cons_zero, List.setIfInBounds_toArray, List.set_cons_zero, List.set_cons_succ]
    refine takeL (i := 1) (v := .agg #[.slice Xb t.boxes.length xb, .slice Xs t.subs.length xs, .slice Xq t.queue.length xq, .int .i64 t.nextValid, .int .i64 t.nextItem]) rfl (by kernel_rfl) (by kernel_rfl) (by kernel_rfl) (by kernel_rfl) (by kernel_rfl) (fun _ _ _ h => h) HT0 (Or.inl ⟨by rfl, fun W hW => by obtain ⟨t0, t1, t2, t3, t4, t5, t6⟩ := hW; go_simp⟩) ?_
    try simp only [Act.put, List.getElem_toArray, List.getElem_cons_succ, List.getElem_cons_zero, List.setIfInBounds_toArray, List.set_cons_zero, List.set_cons_succ]
    refine takeW (i := 2) (v := .pointer (some ⟨X, 17, none⟩)) rfl (by kernel_rfl) (by kernel_rfl) (by kernel_rfl) rfl (fun _ _ _ h => h) (fun _ => HT0) (Or.inl ⟨by rfl, fun W _ => by go_simp⟩) ?_
    try simp only [Act.put, List.getElem_toArray, List.getElem_cons_succ, List.getElem_cons_zero, List.setIfInBounds_toArray, List.set_cons_zero, List.set_cons_succ]
    refine takeL (i := 3) (v := .agg #[.slice Xu us.length xu, .int .i64 n]) rfl (by kernel_rfl) (by kernel_rfl) (by kernel_rfl) (by kernel_rfl) (by kernel_rfl) (fun _ _ _ h => h) HT0 (Or.inl ⟨by rfl, fun W hW => by obtain ⟨t0, t1, t2, t3, t4, t5, t6⟩ := hW; go_simp⟩) ?_
    try simp only [Act.put, List.getElem_toArray, List.getElem_cons_succ, List.getElem_cons_zero, List.setIfInBounds_toArray, List.set_cons_zero, List.set_cons_succ]
    refine readyL (rs := [4]) (by kernel_rfl) (by simp) ?_
    refine AllL.cons rfl (fun K hK => ?_) AllL.nil
    try simp only [List.getElem_toArray, List.getElem_cons_succ, List.getElem_cons_zero]
    have hm6 : Mvs (fun k => k = w.heap.size + 2) w5 (w5.drew.setRow (w.heap.size + 2) #[.slice Xb t.boxes.length xb, .slice Xs t.subs.length xs, .slice Xq t.queue.length xq, .int .i64 t.nextValid, .int .i64 t.nextItem]) := (row_mvs w5.drew _ _).of_drew
    have HZ6 : Blk (w5.drew.setRow (w.heap.size + 2) #[.slice Xb t.boxes.length xb, .slice Xs t.subs.length xs, .slice Xq t.queue.length xq, .int .i64 t.nextValid, .int .i64 t.nextItem]) (w.heap.size + 2) #[.slice Xb t.boxes.length xb, .slice Xs t.subs.length xs, .slice Xq t.queue.length xq, .int .i64 t.nextValid, .int .i64 t.nextItem] 28 := row_blk (w := w5.drew) HZ5.out
    have HY6 : Blk (w5.drew.setRow (w.heap.size + 2) #[.slice Xb t.boxes.length xb, .slice Xs t.subs.length xs, .slice Xq t.queue.length xq, .int .i64 t.nextValid, .int .i64 t.nextItem]) (w.heap.size + 3) #[.slice none 0 0, .int .i64 0] 39 := hm6.blk HY5.out (by omega)
    have hX2 : ¬ X = w.heap.size + 2 := by have := hf2; omega
    have hX3 : ¬ X = w.heap.size + 3 := by have := hf2; omega
    have HT1 : (w5.drew.setRow (w.heap.size + 2) #[.slice Xb t.boxes.length xb, .slice Xs t.subs.length xs, .slice Xq t.queue.length xq, .int .i64 t.nextValid, .int .i64 t.nextItem]).cell? ⟨X, 0, none⟩ = some (.slice Xb t.boxes.length xb) ∧ (w5.drew.setRow (w.heap.size + 2) #[.slice Xb t.boxes.length xb, .slice Xs t.subs.length xs, .slice Xq t.queue.length xq, .int .i64 t.nextValid, .int .i64 t.nextItem]).cell? ⟨X, 1, none⟩ = some (.slice Xs t.subs.length xs) ∧ (w5.drew.setRow (w.heap.size + 2) #[.slice Xb t.boxes.length xb, .slice Xs t.subs.length xs, .slice Xq t.queue.length xq, .int .i64 t.nextValid, .int .i64 t.nextItem]).cell? ⟨X, 2, none⟩ = some (.slice Xq t.queue.length xq) ∧ (w5.drew.setRow (w.heap.size + 2) #[.slice Xb t.boxes.length xb, .slice Xs t.subs.length xs, .slice Xq t.queue.length xq, .int .i64 t.nextValid, .int .i64 t.nextItem]).cell? ⟨X, 3, none⟩ = some (.int .i64 t.nextValid) ∧ (w5.drew.setRow (w.heap.size + 2) #[.slice Xb t.boxes.length xb, .slice Xs t.subs.length xs, .slice Xq t.queue.length xq, .int .i64 t.nextValid, .int .i64 t.nextItem]).cell? ⟨X, 4, none⟩ = some (.int .i64 t.nextItem) ∧ (w5.drew.setRow (w.heap.size + 2) #[.slice Xb t.boxes.length xb, .slice Xs t.subs.length xs, .slice Xq t.queue.length xq, .int .i64 t.nextValid, .int .i64 t.nextItem]).cell? ⟨X, 17, none⟩ = some (.slice Xu us.length xu) ∧ (w5.drew.setRow (w.heap.size + 2) #[.slice Xb t.boxes.length xb, .slice Xs t.subs.length xs, .slice Xq t.queue.length xq, .int .i64 t.nextValid, .int .i64 t.nextItem]).cell? ⟨X, 18, none⟩ = some (.int .i64 n) := ⟨(hm6.cell hf3 hX2).trans c0, (hm6.cell hf3 hX2).trans c1, (hm6.cell hf3 hX2).trans c2, (hm6.cell hf3 hX2).trans c3, (hm6.cell hf3 hX2).trans c4, (hm6.cell hf3 hX2).trans c5, (hm6.cell hf3 hX2).trans c6⟩
    have HD5 : Blk w5.drew (w.heap.size + 2) #[.slice none 0 0, .slice none 0 0, .slice none 0 0, .int .i64 0, .int .i64 0] 28 := HZ5.out
    refine step_store_row (by rfl) 28 (.tmp 4) (.tmp 26) (by rfl) (w.heap.size + 2) #[.slice Xb t.boxes.length xb, .slice Xs t.subs.length xs, .slice Xq t.queue.length xq, .int .i64 t.nextValid, .int .i64 t.nextItem] (by simp [Act.eval, Act.put]) (by simp [Act.eval, Act.put]) 28 #[.slice none 0 0, .slice none 0 0, .slice none 0 0, .int .i64 0, .int .i64 0] HD5 (by kernel_rfl) rfl (by simp [Value.oneCell']) ?_
    refine hK.out _ _ (fun _ => HT1) (fun _ => ?_)
    clear hK K HT0
    have HT0 := HT1
    clear HT1
    generalize (w5.drew.setRow (w.heap.size + 2) #[.slice Xb t.boxes.length xb, .slice Xs t.subs.length xs, .slice Xq t.queue.length xq, .int .i64 t.nextValid, .int .i64 t.nextItem]) = W6 at *
    try simp only [Act.put, List.getElem_toArray, List.getElem_cons_succ, List.getElem_cons_zero, List.setIfInBounds_toArray, List.set_cons_zero, List.set_cons_succ]
    refine readyL (rs := [5]) (by kernel_rfl) (by simp) ?_
    refine AllL.cons rfl (fun K hK => ?_) AllL.nil
    try simp only [List.getElem_toArray, List.getElem_cons_succ, List.getElem_cons_zero]
    refine step_store_row (by rfl) 39 (.tmp 5) (.tmp 28) (by rfl) (w.heap.size + 3) #[.slice Xu us.length xu, .int .i64 n] (by simp [Act.eval, Act.put]) (by simp [Act.eval, Act.put]) 39 #[.slice none 0 0, .int .i64 0] HY6 (by kernel_rfl) rfl (by simp [Value.oneCell']) ?_
    refine hK.out _ _ (vac (by kernel_rfl)) (fun _ => ?_)
    clear hK K HT0
    try simp only [Act.put, List.getElem_toArray, List.getElem_cons_succ, List.getElem_cons_zero, List.setIfInBounds_toArray, List.set_cons_zero, List.set_cons_succ]
    refine takeW (i := 6) (v := .nilIface) rfl (by kernel_rfl) (by kernel_rfl) (by kernel_rfl) rfl (fun _ _ _ h => h) (vac (by kernel_rfl)) (Or.inl ⟨by rfl, fun W _ => by go_simp⟩) ?_
    try simp only [Act.put, List.getElem_toArray, List.getElem_cons_succ, List.getElem_cons_zero, List.setIfInBounds_toArray, List.set_cons_zero, List.set_cons_succ]
    refine doneL (by kernel_rfl) ?_ _
    have hm7 : Mvs (fun k => k = w.heap.size + 3) W6 (W6.setRow (w.heap.size + 3) #[.slice Xu us.length xu, .int .i64 n]) := row_mvs _ _ _
    have HY7 : Blk (W6.setRow (w.heap.size + 3) #[.slice Xu us.length xu, .int .i64 n]) (w.heap.size + 3) #[.slice Xu us.length xu, .int .i64 n] 39 := row_blk HY6
    have HZ7 := hm7.blk HZ6 (by omega)
    have hs1 := HBw.out.size
    have hm57 : Mvs (fun k => ¬ k < w.heap.size ∧ k < w1.heap.size) w5 _ := (hm6.mono (fun k _ e => by omega)).trans' hm7 (fun k _ e => by omega)
    obtain ⟨r1, r2⟩ := hrd.out _ (hm57.mono (fun k _ e => e.2))
    have hbf : Below w.heap.size w _ := (HBw.out.trans (hf1.mono hs1)).trans (hm57.below (B := w.heap.size) (fun k hk e => e.1 hk) (by have := hf1.size; omega))
    generalize W6.setRow (w.heap.size + 3) #[.slice Xu us.length xu, .int .i64 n] = W7 at *
    have HRD : Hid (∀ w2, Mvs (fun k => k < w.heap.size) W7 w2 → StR w2 (.agg #[.slice Xb t.boxes.length xb, .slice Xs t.subs.length xs, .slice Xq t.queue.length xq, .int .i64 t.nextValid, .int .i64 t.nextItem]) t ∧ RdE 1 IntAt w2 (.slice Xu us.length xu) us) := fun w2 hw2 => hrd.out w2 ((hm57.mono (fun k _ e => e.2)).trans' hw2 (fun k _ (e : k < w.heap.size) => Nat.lt_of_lt_of_le e hs1))
    have e0 : W7.cell? ⟨w.heap.size + 2, 0, none⟩ = some (.slice Xb t.boxes.length xb) := HZ7.cell 0
    have e1 : W7.cell? ⟨w.heap.size + 2, 1, none⟩ = some (.slice Xs t.subs.length xs) := HZ7.cell 1
    have e2 : W7.cell? ⟨w.heap.size + 2, 2, none⟩ = some (.slice Xq t.queue.length xq) := HZ7.cell 2
    have e3 : W7.cell? ⟨w.heap.size + 2, 3, none⟩ = some (.int .i64 t.nextValid) := HZ7.cell 3
    have e4 : W7.cell? ⟨w.heap.size + 2, 4, none⟩ = some (.int .i64 t.nextItem) := HZ7.cell 4
    have e5 : W7.cell? ⟨w.heap.size + 3, 0, none⟩ = some (.slice Xu us.length xu) := HY7.cell 0
    have e6 : W7.cell? ⟨w.heap.size + 3, 1, none⟩ = some (.int .i64 n) := HY7.cell 1
    go_wp2
    have k0 : W7.cell? ⟨w.heap.size + 1 + 1, 0, none⟩ = some (.slice Xb t.boxes.length xb) := e0
    have k1 : W7.cell? ⟨w.heap.size + 1 + 1, 1, none⟩ = some (.slice Xs t.subs.length xs) := e1
    have k2 : W7.cell? ⟨w.heap.size + 1 + 1, 2, none⟩ = some (.slice Xq t.queue.length xq) := e2
    have k3 : W7.cell? ⟨w.heap.size + 1 + 1, 3, none⟩ = some (.int .i64 t.nextValid) := e3
    have k4 : W7.cell? ⟨w.heap.size + 1 + 1, 4, none⟩ = some (.int .i64 t.nextItem) := e4
    have k5 : W7.cell? ⟨w.heap.size + 1 + 1 + 1, 0, none⟩ = some (.slice Xu us.length xu) := e5
    have k6 : W7.cell? ⟨w.heap.size + 1 + 1 + 1, 1, none⟩ = some (.int .i64 n) := e6
    exact bodyPost_ret (v := .tuple #[.agg #[.slice Xb t.boxes.length xb, .slice Xs t.subs.length xs, .slice Xq t.queue.length xq, .int .i64 t.nextValid, .int .i64 t.nextItem], .agg #[.slice Xu us.length xu, .int .i64 n], .nilIface]) (by simp [results, Tryz.results8, go_sem, e0, k0, e1, k1, e2, k2, e3, k3, e4, k4, e5, k5, e6, k6]) rfl ⟨_, _, n, t, us, rfl, hbf, hR.out, HRD.out⟩
end Go.Proofs.YtdbmaobjikjifaaGreatDoorR
