/- An actor in memory: one of its boxes has another list of messages; what it answers has another list of numbers. -/
/- Package post: messages are put into a box. -/
/- RLI once more: a load that the first store waits for through others. -/
import Derived.Test.YtdbmaobjikjifaaGreatDoorRU32
import Derived.Test.YtdbmaobjikjifaaGreatDoorRU37
import Derived.Test.YtdbmaobjikjifaaGreatDoorRU04
section
set_option linter.unusedVariables false
set_option linter.unusedSimpArgs false
namespace Go.Proofs.YtdbmaobjikjifaaGreatDoorR
open Go.RowKit
theorem Sep.set {l : List (Option Nat)} (h : Sep l) (i : Nat) (hi : i < l.length) (G' : Option Nat) (hG : G' = l[i] ∨ ∃ N, G' = some N ∧ ∀ g, some g ∈ l → g < N) : Sep (l.set i G') := by
  rcases hG with rfl | ⟨N, rfl, hN⟩
  · rw [List.set_getElem_self]
    exact h
  · unfold Sep at h ⊢
    rw [List.pairwise_iff_getElem] at h ⊢
    intro a b ha hb hab g e1 e2
    rw [List.length_set] at ha hb
    rw [List.getElem_set] at e1 e2
    by_cases ea : i = a
    · rw [if_pos ea] at e1
      rw [if_neg (by omega)] at e2
      cases e1
      have := hN _ (by rw [← e2]; exact List.getElem_mem hb)
      omega
    · rw [if_neg ea] at e1
      by_cases eb : i = b
      · rw [if_pos eb] at e2
        cases e2
        have := hN _ (by rw [← e1]; exact List.getElem_mem ha)
        omega
      · rw [if_neg eb] at e2
        exact h a b ha hb hab g e1 e2
theorem sep_ne {l : List (Option Nat)} (h : Sep l) {i j : Nat} (hi : i < l.length) (hj : j < l.length) (hij : i ≠ j) : ∀ g, l[j] = some g → ¬ some g = l[i] := by
  unfold Sep at h
  rw [List.pairwise_iff_getElem] at h
  intro g e1 e2
  rcases Nat.lt_or_gt_of_ne hij with hlt | hgt
  · exact h i j hi hj hlt g e2.symm e1
  · exact h j i hj hi hgt g e1 e2.symm
section
variable {w0 w w1 : World} {X : Nat} {p : PA}
theorem blocks_len (p : PA) : p.blocks.length = 4 + p.lb.length + p.lq.length := by
  unfold PA.blocks
  simp only [List.length_cons, List.length_append, List.length_map]
  omega
theorem blocks_lb (p : PA) (k : Nat) (hk : k < p.lb.length) : p.blocks[k + 4]'(by rw [blocks_len]; omega) = p.lb[k].G := by
  unfold PA.blocks
  simp only [List.getElem_cons_succ]
  rw [List.getElem_append_left (by rw [List.length_map]; exact hk), List.getElem_map]
theorem blocks_lq (p : PA) (k : Nat) (hk : k < p.lq.length) : p.blocks[p.lb.length + k + 4]'(by rw [blocks_len]; omega) = p.lq[k].G := by
  unfold PA.blocks
  simp only [List.getElem_cons_succ]
  rw [List.getElem_append_right (by rw [List.length_map]; omega)]
  simp
theorem blocks_set (p : PA) (k : Nat) (hk : k < p.lb.length) (x' : BL) : ({ p with lb := p.lb.set k x' } : PA).blocks = p.blocks.set (k + 4) x'.G := by
  show p.gb :: p.gs :: p.gq :: p.gu :: ((p.lb.set k x').map BL.G ++ p.lq.map QL.G) = (p.gb :: p.gs :: p.gq :: p.gu :: (p.lb.map BL.G ++ p.lq.map QL.G)).set (k + 4) x'.G
  rw [List.map_set]
  simp only [List.set_cons_succ]
  rw [List.set_append_left _ _ (by rw [List.length_map]; exact hk)]
theorem AS.block_lt (h : AS w0 w X p) : ∀ g, some g ∈ p.blocks → g < w.heap.size := by
  intro g hg
  unfold PA.blocks at hg
  simp only [List.mem_cons, List.mem_append, List.mem_map] at hg
  rcases hg with e | e | e | e | ⟨x, hx, e⟩ | ⟨x, hx, e⟩
  · exact h.rb.lt g e.symm
  · exact h.rs.lt g e.symm
  · exact h.rq.lt g e.symm
  · exact h.ru.lt g e.symm
  · exact (h.rm x hx).lt g e
  · exact (h.rf x hx).lt g e
/-- Box k has another list of messages, in its own block or a new one. -/
theorem AS.setM (h : AS w0 w X p) {g o c : Nat} (hg : p.gb = some g) (hv : p.vb = .slice (some ⟨g, o, none⟩) p.lb.length c) (k : Nat) (hk : k < p.lb.length) (v' : Value) (G' : Option Nat) (ms : List Msg) (hm : Mvs (fun j => some j = p.lb[k].G) w w1) (hr : Rw w1 4 v' ms.length (ms.flatMap msC) G') (hG : G' = p.lb[k].G ∨ ∃ N, G' = some N ∧ w.heap.size ≤ N) :
    AS w0 (w1.setCell ⟨g, o + k * 5 + 4, none⟩ v') X { p with lb := p.lb.set k { b := { p.lb[k].b with msgs := ms }, v := v', G := G' } } := by
  have hlen := blocks_len p
  have hne : ∀ j (hj : j < p.blocks.length), j ≠ k + 4 → ∀ g, p.blocks[j] = some g → ¬ some g = p.lb[k].G := fun j hj hjk g e e' => sep_ne h.sep (i := k + 4) (j := j) (by omega) hj (Ne.symm hjk) g e (by rw [blocks_lb p k hk]; exact e')
  have hkb : ∀ g, p.lb[k].G = some g → ¬ some g = p.gb := fun g e e' => sep_ne h.sep (i := 0) (j := k + 4) (by omega) (by omega) (by omega) g (by rw [blocks_lb p k hk]; exact e) (by rw [e']; rfl)
  have hX : ¬ some X = p.lb[k].G := fun e => (h.own X (by rw [e, ← blocks_lb p k hk]; exact List.getElem_mem _)).2 rfl
  have hk0 : ∀ g, p.lb[k].G = some g → w0.heap.size ≤ g := fun g e => (h.own g (by rw [← e, ← blocks_lb p k hk]; exact List.getElem_mem _)).1
  have hm2 : Mvs (fun j => some j = p.lb[k].G ∨ some j = p.gb) w (w1.setCell ⟨g, o + k * 5 + 4, none⟩ v') := (hm.mono fun _ _ h => Or.inl h).setCell _ _ (fun _ => Or.inr hg.symm)
  have hother : ∀ j (hj : j < p.blocks.length), j ≠ k + 4 → j ≠ 0 → ∀ g, p.blocks[j] = some g → ¬ (some g = p.lb[k].G ∨ some g = p.gb) := fun j hj hjk hj0 g e => by
    rintro (e' | e')
    · exact hne j hj hjk g e e'
    · exact sep_ne h.sep (i := 0) (j := j) (by omega) hj (Ne.symm hj0) g e (by rw [e']; rfl)
  refine ⟨h.bel.trans (hm2.below (fun i hi e => ?_) h.bel.size), h.hX, hm2.blk h.blk ?_, ?_, h.rs.keep hm2 (hother 1 (by omega) (by omega) (by omega)), h.rq.keep hm2 (hother 2 (by omega) (by omega) (by omega)), h.ru.keep hm2 (hother 3 (by omega) (by omega) (by omega)), fun x hx => ?_, fun x hx => ?_, ?_, ?_, h.ua, h.fa⟩
  · rcases e with e | e
    · have := hk0 i e.symm
      omega
    · have := h.gb_own e.symm
      omega
  · rintro (e | e)
    · exact hX e
    · exact h.gb_X e
  · show Rw _ 5 p.vb (p.lb.set k _).length ((p.lb.set k _).flatMap blC) p.gb
    have hr5 := h.rb.keep hm (fun g e e' => hkb g e'.symm e.symm)
    rw [hv, hg] at hr5
    rw [List.length_set, hv, hg]
    exact rw_set blC_len hr5 k 4 hk (by omega) _ v' rfl
  · obtain ⟨j, hj, rfl⟩ := List.getElem_of_mem hx
    rw [List.length_set] at hj
    rw [List.getElem_set]
    by_cases e : k = j
    · rw [if_pos e]
      refine hr.keep (S := fun j => some j = p.gb) ((Mvs.refl _ _).setCell _ _ (fun _ => hg.symm)) (fun g' e' => ?_)
      rcases hG with hG | ⟨N, hG, hN⟩
      · exact hkb g' (by rw [← hG]; exact e')
      · rw [hG] at e'
        cases e'
        intro e2
        have := h.rb.lt _ e2.symm
        omega
    · rw [if_neg e]
      exact (h.rm _ (List.getElem_mem hj)).keep hm2 (fun g e' => hother (j + 4) (by omega) (by omega) (by omega) g (by rw [blocks_lb p j hj]; exact e'))
  · obtain ⟨j, hj0, rfl⟩ := List.getElem_of_mem hx
    have hj : j < p.lq.length := hj0
    exact (h.rf _ (List.getElem_mem hj)).keep hm2 (fun g e' => hother (p.lb.length + j + 4) (by omega) (by omega) (by omega) g (by rw [blocks_lq p j hj]; exact e'))
  · intro g' hg'
    rw [blocks_set p k hk] at hg'
    rcases List.mem_or_eq_of_mem_set hg' with hg' | hg'
    · exact h.own g' hg'
    · dsimp only at hg'
      rcases hG with hG | ⟨N, hG, hN⟩
      · exact h.own g' (by rw [hg', hG, ← blocks_lb p k hk]; exact List.getElem_mem _)
      · rw [hG] at hg'
        cases hg'
        exact ⟨Nat.le_trans h.bel.size hN, fun e => by have := h.blk.lt; omega⟩
  · rw [blocks_set p k hk]
    refine h.sep.set (k + 4) (by omega) _ ?_
    rcases hG with hG | ⟨N, hG, hN⟩
    · exact .inl (by rw [blocks_lb p k hk]; exact hG)
    · exact .inr ⟨_, hG, fun g hg => Nat.lt_of_lt_of_le (h.block_lt g hg) hN⟩
/-- What is answered has other numbers, in its own block or a new one. -/
theorem AS.setU (h : AS w0 w X p) (v' : Value) (G' : Option Nat) (us : List Int) (hm : Mvs (fun j => some j = p.gu) w w1) (hr : Rw w1 1 v' us.length (us.flatMap inC) G') (hG : G' = p.gu ∨ ∃ N, G' = some N ∧ w.heap.size ≤ N) :
    AS w0 (w1.setCell ⟨X, 17, none⟩ v') X { p with us := us, vu := v', gu := G' } := by
  have hlen := blocks_len p
  have hX : ∀ g, some g ∈ p.blocks → g ≠ X := fun g hg => (h.own g hg).2
  have hm2 : Mvs (fun j => some j = p.gu ∨ j = X) w (w1.setCell ⟨X, 17, none⟩ v') := (hm.mono fun _ _ h => Or.inl h).setCell _ _ (fun _ => Or.inr rfl)
  have hother : ∀ j (hj : j < p.blocks.length), j ≠ 3 → ∀ g, p.blocks[j] = some g → ¬ (some g = p.gu ∨ g = X) := fun j hj hj3 g e => by
    rintro (e' | e')
    · exact sep_ne h.sep (i := 3) (j := j) (by omega) hj (Ne.symm hj3) g e (by rw [e']; rfl)
    · exact hX g (by rw [← e]; exact List.getElem_mem _) e'
  have hbl : ({ p with us := us, vu := v', gu := G' } : PA).blocks = p.blocks.set 3 G' := rfl
  have huX : ¬ some X = p.gu := fun e => hX X (by rw [e]; simp [PA.blocks]) rfl
  refine ⟨h.bel.trans (hm2.below (fun i hi e => ?_) h.bel.size), h.hX, ?_, h.rb.keep hm2 (hother 0 (by omega) (by omega)), h.rs.keep hm2 (hother 1 (by omega) (by omega)), h.rq.keep hm2 (hother 2 (by omega) (by omega)), ?_, fun x hx => ?_, fun x hx => ?_, ?_, ?_, h.ua, h.fa⟩
  · rcases e with e | e
    · have := (h.own i (by rw [e]; simp [PA.blocks])).1
      omega
    · have := h.hX
      omega
  · have := (hm.blk h.blk huX).set 17 v'
    have e : p.cells.setIfInBounds 17 v' = ({ p with us := us, vu := v', gu := G' } : PA).cells := rfl
    rwa [e] at this
  · refine hr.keep (S := fun j => j = X) ((Mvs.refl _ _).setCell _ _ (fun _ => rfl)) (fun g e => ?_)
    rcases hG with hG | ⟨N, hG, hN⟩
    · exact hX g (by rw [← e, hG]; simp [PA.blocks])
    · rw [hG] at e
      cases e
      have := h.blk.lt
      omega
  · obtain ⟨j, hj0, rfl⟩ := List.getElem_of_mem hx
    have hj : j < p.lb.length := hj0
    exact (h.rm _ (List.getElem_mem hj)).keep hm2 (fun g e' => hother (j + 4) (by omega) (by omega) g (by rw [blocks_lb p j hj]; exact e'))
  · obtain ⟨j, hj0, rfl⟩ := List.getElem_of_mem hx
    have hj : j < p.lq.length := hj0
    exact (h.rf _ (List.getElem_mem hj)).keep hm2 (fun g e' => hother (p.lb.length + j + 4) (by omega) (by omega) g (by rw [blocks_lq p j hj]; exact e'))
  · intro g hg
    rw [hbl] at hg
    rcases List.mem_or_eq_of_mem_set hg with hg | hg
    · exact h.own g hg
    · rcases hG with hG | ⟨N, hG, hN⟩
      · exact h.own g (by rw [hg, hG]; simp [PA.blocks])
      · rw [hG] at hg
        cases hg
        exact ⟨Nat.le_trans h.bel.size hN, fun e => by have := h.blk.lt; omega⟩
  · rw [hbl]
    refine h.sep.set 3 (by omega) _ ?_
    rcases hG with hG | ⟨N, hG, hN⟩
    · exact .inl hG
    · exact .inr ⟨_, hG, fun g hg => Nat.lt_of_lt_of_le (h.block_lt g hg) hN⟩
/-- What is no block of the actor's is written. -/
theorem AS.keep {S : Nat → Prop} (h : AS w0 w X p) (hm : Mvs S w w1) (hS : ∀ j, S j → w0.heap.size ≤ j ∧ some j ∉ p.blocks ∧ j ≠ X) : AS w0 w1 X p := by
  have hf : ∀ G : Option Nat, G ∈ p.blocks → ∀ g, G = some g → ¬ S g := fun G hG g e c => by subst e; exact (hS g c).2.1 hG
  have m0 : ∀ x ∈ p.lb, x.G ∈ p.blocks := fun x hx => by unfold PA.blocks; simp; right; right; right; right; left; exact ⟨x, hx, rfl⟩
  have m1 : ∀ x ∈ p.lq, x.G ∈ p.blocks := fun x hx => by unfold PA.blocks; simp; right; right; right; right; right; exact ⟨x, hx, rfl⟩
  exact ⟨h.bel.trans (hm.below (fun k hk e => by have := (hS k e).1; omega) h.bel.size), h.hX, hm.blk h.blk (fun c => (hS X c).2.2 rfl), h.rb.keep hm (hf _ (by simp [PA.blocks])), h.rs.keep hm (hf _ (by simp [PA.blocks])), h.rq.keep hm (hf _ (by simp [PA.blocks])), h.ru.keep hm (hf _ (by simp [PA.blocks])), fun x hx => (h.rm x hx).keep hm (hf _ (m0 x hx)), fun x hx => (h.rf x hx).keep hm (hf _ (m1 x hx)), h.own, h.sep, h.ua, h.fa⟩
end
end Go.Proofs.YtdbmaobjikjifaaGreatDoorR

end
section
set_option linter.unusedVariables false
set_option linter.unusedSimpArgs false
namespace Go.Proofs.YtdbmaobjikjifaaGreatDoorR
open Go.RowKit Go.Shelf
theorem poPut_snoc : ∀ (l : List Msg) (b : Bx) (m : Msg), poPut b (l ++ [m]) = ({ (poPut b l).1 with next := (poPut b l).1.next + 1, msgs := (poPut b l).1.msgs ++ [{ m with uid := (poPut b l).1.next }] }, (poPut b l).2 ++ [(poPut b l).1.next])
  | [], b, m => rfl
  | x :: r, b, m => by
    have ih := poPut_snoc r { b with next := b.next + 1, msgs := b.msgs ++ [{ x with uid := b.next }] } m
    show poPut b (x :: (r ++ [m])) = _
    unfold poPut
    rw [ih]
    rfl
theorem poPut_next : ∀ (l : List Msg) (b : Bx), (poPut b l).1.next = b.next + l.length
  | [], b => by simp [poPut]
  | x :: r, b => by
    unfold poPut
    rw [poPut_next r]
    simp only [List.length_cons]
    push_cast
    omega
theorem poPut_len : ∀ (l : List Msg) (b : Bx), (poPut b l).1.msgs.length = b.msgs.length + l.length ∧ (poPut b l).2.length = l.length
  | [], b => by simp [poPut]
  | x :: r, b => by
    unfold poPut
    have := poPut_len r { b with next := b.next + 1, msgs := b.msgs ++ [{ x with uid := b.next }] }
    simp only [List.length_append, List.length_cons, List.length_nil] at this ⊢
    exact ⟨by omega, by rw [this.2]⟩
theorem poPut_bodies : ∀ (l : List Msg) (b : Bx), (∀ m ∈ b.msgs, m.body.length ≤ 1000000) → (∀ m ∈ l, m.body.length ≤ 1000000) → ∀ m ∈ (poPut b l).1.msgs, m.body.length ≤ 1000000
  | [], b, h1, _ => by simpa [poPut] using h1
  | x :: r, b, h1, h2 => by
    unfold poPut
    refine poPut_bodies r _ (fun m hm => ?_) (fun m hm => h2 m (List.mem_cons_of_mem _ hm))
    rcases List.mem_append.1 hm with hm | hm
    · exact h1 m hm
    · rw [List.mem_singleton.1 hm]
      exact h2 x (List.mem_cons_self ..)
/-- The actor with another box at a place, and other numbers answered. -/
def PA.putP (p : PA) (k : Nat) (x : BL) (us : List Int) (vu : Value) (gu : Option Nat) : PA := { p with lb := p.lb.set k x, us := us, vu := vu, gu := gu }
theorem infoMsg : (Tryz.prog.info? 47).map (fun i => (i.zero, i.size, i.bytes)) = some (some (.agg #[.int .i64 0, .int .i64 0, .int .i64 0, .string ⟨#[]⟩]), 4, 40) := by kernel_rfl
set_option maxRecDepth 20000 in
set_option maxHeartbeats 16000000 in
theorem pput_loop {w0 w : World} {X : Nat} {p : PA} {ea : Nat → Addr} (h : AS w0 w X p) (hE : Errs w0 ea) (hl : p.lb.length ≤ 1000) {k : Nat} (hk : k < p.lb.length) {mv : Value} {ms : List Msg} (HMs : ∀ w2, Mvs (fun j => some j ∈ p.blocks ∨ j = X) w w2 → RdE 4 MsgAt w2 mv ms)
    (hml : p.lb[k].b.msgs.length + ms.length ≤ 1000000) (hnx : 0 ≤ p.lb[k].b.next ∧ p.lb[k].b.next ≤ 4000000000) (hus : p.us.length + ms.length ≤ 1000000) (hbd : (∀ m ∈ p.lb[k].b.msgs, m.body.length ≤ 1000000) ∧ (∀ m ∈ ms, m.body.length ≤ 1000000)) (Q : Value → World → Prop)
    (hQ : ∀ w' v G vu gu, AS w0 w' X (p.putP k ⟨(poPut p.lb[k].b ms).1, v, G⟩ (p.us ++ (poPut p.lb[k].b ms).2) vu gu) → Mvs (fun j => some j ∈ p.blocks ∨ j = X) w w' → (poRoom (poPut p.lb[k].b ms).1 = true → Q .nilIface w') ∧ (poRoom (poPut p.lb[k].b ms).1 = false → Q (erV ea 11) w')) :
    Calls Tryz.prog 92 #[.pointer (some ⟨X, 0, none⟩), .int .i64 (k : Int), mv] w fun e w' => ∃ v, e = .returned v ∧ Q v w' := by
  have HH := hide h
  have HMr := hide HMs
  obtain ⟨Am, cm, rfl⟩ := (HMs w (Mvs.refl _ _)).form
  obtain ⟨i0, hi, hz0, hz1, hz2⟩ := infoP infoMsg
  obtain ⟨i1, hj1, hy0, hy1, hy2⟩ := infoP intInfoP
  obtain ⟨A1, c1, ev, _, hat⟩ := rw_at blC_len h.rb
  obtain ⟨g, o, rfl, hgb, hgl, hcap, hc⟩ := hat k hk
  have HV := hide ev
  have HGb := hide hgb
  have q0 : w.cell? ⟨X, 0, none⟩ = some (.slice (some ⟨g, o, none⟩) p.lb.length c1) := by rw [← ev]; exact h.blk.cell 0
  have hkz : (k : Int) < (p.lb.length : Int) := by omega
  obtain ⟨lm, hlm⟩ : ∃ lm, Hid (ms.length = lm) := ⟨_, hide rfl⟩
  rw [hlm.out] at hml hus ⊢
  clear h HMs ev hat hgb hc
  replace hQ := hide hQ
  go_enter Tryz.func92, Tryz.ntmps92
  go_wp2
  clear q0
  go_loopw [19] (fun v19 wr => ∃ j : Nat, v19 = .int .i64 j ∧ j ≤ lm ∧ ∃ v G vu gu, Hid (AS w0 wr X (p.putP k ⟨(poPut p.lb[k].b (ms.take j)).1, v, G⟩ (p.us ++ (poPut p.lb[k].b (ms.take j)).2) vu gu)) ∧ Hid (Mvs (fun j => some j ∈ p.blocks ∨ j = X) w wr) ∧ Hid ((∀ i, G = some i → i < w.heap.size → some i ∈ p.blocks) ∧ (∀ i, gu = some i → i < w.heap.size → some i ∈ p.blocks))) (fun v19 _ => lm - (intOf v19).toNat)
  case atStart =>
    refine ⟨0, rfl, Nat.zero_le _, p.lb[k].v, p.lb[k].G, p.vu, p.gu, ?_, Mvs.refl _ _, fun i e _ => by rw [← e, ← blocks_lb p k hk]; exact List.getElem_mem _, fun i e _ => by rw [← e]; simp [PA.blocks]⟩
    have e : p.putP k ⟨(poPut p.lb[k].b (ms.take 0)).1, p.lb[k].v, p.lb[k].G⟩ (p.us ++ (poPut p.lb[k].b (ms.take 0)).2) p.vu p.gu = p := by
      rw [List.take_zero]
      unfold PA.putP poPut
      have : p.lb.set k (⟨p.lb[k].b, p.lb[k].v, p.lb[k].G⟩ : BL) = p.lb := List.set_getElem_self hk
      dsimp only
      rw [this, List.append_nil]
    rw [e]
    exact HH.out
  case round =>
    obtain ⟨j, rfl, hj, v, G, vu, gu, HS, HM, HO⟩ := hrel
    clear HH
    by_cases hlt : j < lm
    · have hltz : (j : Int) < (lm : Int) := by omega
      have hjm : j < ms.length := by rw [hlm.out]; exact hlt
      obtain ⟨r, hr⟩ : ∃ r, Hid (poPut p.lb[k].b (ms.take j) = r) := ⟨_, hide rfl⟩
      have HNx : Hid (poPut p.lb[k].b (ms.take (j + 1)) = ({ r.1 with next := r.1.next + 1, msgs := r.1.msgs ++ [{ ms[j] with uid := r.1.next }] }, r.2 ++ [r.1.next])) := by show _ = _; rw [List.take_succ_eq_append_getElem hjm, poPut_snoc, hr.out]
      have hn1 : r.1.next = p.lb[k].b.next + (j : Int) := by rw [← hr.out, poPut_next, List.length_take, Nat.min_eq_left (by omega)]
      have hn2 : r.1.msgs.length = p.lb[k].b.msgs.length + j ∧ r.2.length = j := by rw [← hr.out]; have := poPut_len (ms.take j) p.lb[k].b; rw [List.length_take, Nat.min_eq_left (by omega)] at this; exact this
      rw [hr.out] at HS
      obtain ⟨⟨b0, b1, b2, b3, b4⟩, uj⟩ := r
      dsimp only at HS HNx hn1 hn2
      have hb3 : 0 ≤ b3 ∧ b3 ≤ 4001000000 := by omega
      have hb4 : b4.length + 1 ≤ 1000001 := by omega
      have huj : (p.us ++ uj).length + 1 ≤ 1000001 := by rw [List.length_append]; omega
      clear hn1 hn2
      have hk' : k < (p.putP k ⟨⟨b0, b1, b2, b3, b4⟩, v, G⟩ (p.us ++ uj) vu gu).lb.length := by show k < (p.lb.set k _).length; rw [List.length_set]; exact hk
      have hx : (p.putP k ⟨⟨b0, b1, b2, b3, b4⟩, v, G⟩ (p.us ++ uj) vu gu).lb[k]'hk' = ⟨⟨b0, b1, b2, b3, b4⟩, v, G⟩ := List.getElem_set_self _
      obtain ⟨A', c', ev', _, hat⟩ := rw_at blC_len HS.out.rb
      have hlb : (p.putP k ⟨⟨b0, b1, b2, b3, b4⟩, v, G⟩ (p.us ++ uj) vu gu).lb.length = p.lb.length := by show (p.lb.set k _).length = _; rw [List.length_set]
      rw [hlb] at ev'
      have ev2 : Value.slice (some ⟨g, o, none⟩) p.lb.length c1 = .slice A' p.lb.length c' := HV.out.symm.trans ev'
      simp only [Value.slice.injEq, true_and] at ev2
      obtain ⟨rfl, rfl⟩ := ev2
      obtain ⟨g', o', ea, _, hgl', _, hc⟩ := hat k hk'
      cases ea
      rw [hx] at hc
      obtain ⟨Av, cv, hvf⟩ := (HS.out.rm ⟨⟨b0, b1, b2, b3, b4⟩, v, G⟩ (by have := List.getElem_mem hk'; rwa [hx] at this)).form
      have hvf2 : v = .slice Av b4.length cv := hvf
      subst hvf2
      clear hvf hat ev'
      have HC : Hid (∀ W1, Below wr.heap.size wr W1 → ∀ jj, jj < 5 → W1.cell? ⟨g, o + k * 5 + jj, none⟩ = (blC (⟨⟨b0, b1, b2, b3, b4⟩, .slice Av b4.length cv, G⟩ : BL))[jj]? ∧ W1.frozen? ⟨g, o + k * 5 + jj, none⟩ = false) := fun W1 hW jj hjj => ⟨(hW.cell (p := ⟨g, o + k * 5 + jj, none⟩) hgl').trans (hc jj hjj).1, ((Mvs.of_below (S := fun _ => False) hW).frozen (a := ⟨g, o + k * 5 + jj, none⟩) hgl' (fun c => c)).trans (hc jj hjj).2⟩
      obtain ⟨g2, o2, eM, hg2, p0, p1, p2, p3⟩ := (HMr.out wr HM.out).at hjm
      subst eM
      obtain ⟨m, hm⟩ : ∃ m, Hid (ms[j] = m) := ⟨_, hide rfl⟩
      rw [hm.out] at p0 p1 p2 p3 HNx
      have r0 : wr.cell? ⟨g2, o2 + j * 4, none⟩ = some (.int .i64 m.uid) := p0
      have r1 : wr.cell? ⟨g2, o2 + j * 4 + 1, none⟩ = some (.int .i64 m.flags) := p1
      have r2 : wr.cell? ⟨g2, o2 + j * 4 + 2, none⟩ = some (.int .i64 m.date) := p2
      have r3 : wr.cell? ⟨g2, o2 + j * 4 + 3, none⟩ = some (.string ⟨m.body.toArray⟩) := p3
      clear p0 p1 p2 p3 hc
      obtain ⟨m0, m1, m2, m3⟩ := m
      dsimp only at r0 r1 r2 r3 HNx
      have AL : Below wr.heap.size wr (wr.alloc (.cells #[.int .i64 m0, .int .i64 m1, .int .i64 m2, .string ⟨m3.toArray⟩] 47)) := (Below.refl _ _).alloc (Nat.le_refl _) _
      have HSa := hide (HS.out.below AL)
      have HKY := hide (Blk.new wr #[.int .i64 m0, .int .i64 m1, .int .i64 m2, .string ⟨m3.toArray⟩] 47)
      obtain ⟨k3, f3⟩ := HC.out _ AL 3 (by omega)
      have k3' : (wr.alloc (.cells #[.int .i64 m0, .int .i64 m1, .int .i64 m2, .string ⟨m3.toArray⟩] 47)).cell? ⟨g, o + k * 5 + 3, none⟩ = some (.int .i64 b3) := k3
      have y0 := HKY.out.cell 0
      have yf0 := HKY.out.frozen 0
      simp only [List.getElem?_toArray, List.getElem?_cons_zero, List.getElem?_cons_succ] at y0
      clear k3
      have hgY : ¬ g = wr.heap.size := by omega
      have hYX : ¬ wr.heap.size = X := by have := HS.out.blk.lt; omega
      have hYb : some wr.heap.size ∉ (p.putP k ⟨⟨b0, b1, b2, b3, b4⟩, .slice Av b4.length cv, G⟩ (p.us ++ uj) vu gu).blocks := fun c => by have := HS.out.block_lt _ c; omega
      have hY0 : w0.heap.size ≤ wr.heap.size := HS.out.bel.size
      go_upto_region 6 with fail
      have ALb : Below wr.heap.size wr (wr.alloc (.cells #[.int .i64 b3, .int .i64 m1, .int .i64 m2, .string ⟨m3.toArray⟩] 47)) := (Below.refl _ _).alloc (Nat.le_refl _) _
      have HSb := hide (HS.out.below ALb)
      have HKb := hide (Blk.new wr #[.int .i64 b3, .int .i64 m1, .int .i64 m2, .string ⟨m3.toArray⟩] 47)
      obtain ⟨k3b, f3b⟩ := HC.out _ ALb 3 (by omega)
      have k3c : (wr.alloc (.cells #[.int .i64 b3, .int .i64 m1, .int .i64 m2, .string ⟨m3.toArray⟩] 47)).cell? ⟨g, o + k * 5 + 3, none⟩ = some (.int .i64 b3) := k3b
      have HMb : Hid (Mvs (fun i => i = wr.heap.size) wr (wr.alloc (.cells #[.int .i64 b3, .int .i64 m1, .int .i64 m2, .string ⟨m3.toArray⟩] 47))) := Mvs.of_below ALb
      clear r0 r1 r2 r3 y0 yf0 k3' f3 HSa HKY AL k3b
      obtain ⟨Wb, hWb⟩ : ∃ Wb, Hid ((wr.alloc (.cells #[.int .i64 b3, .int .i64 m1, .int .i64 m2, .string ⟨m3.toArray⟩] 47)) = Wb) := ⟨_, hide rfl⟩
      rw [hWb.out] at HSb HKb k3c f3b HMb ⊢
      have hWbe := hWb
      clear hWb
      have hw : IntKind.i64.wrap (b3 + 1) = b3 + 1 := wrap1 (by omega) (by omega)
      go_upto_region 7 with fail
      have HSc := hide (HSb.out.setB (g := g) (o := o) (c := c1) HGb.out (by show p.vb = .slice (some ⟨g, o, none⟩) (p.lb.set k _).length c1; rw [List.length_set]; exact HV.out) k 3 (by show k < (p.lb.set k _).length; rw [List.length_set]; exact hk) (by omega) (⟨⟨b0, b1, b2, b3 + 1, b4⟩, .slice Av b4.length cv, G⟩ : BL) (.int .i64 (b3 + 1)) (by have e : (p.putP k ⟨⟨b0, b1, b2, b3, b4⟩, .slice Av b4.length cv, G⟩ (p.us ++ uj) vu gu).lb[k]'(by show k < (p.lb.set k _).length; rw [List.length_set]; exact hk) = ⟨⟨b0, b1, b2, b3, b4⟩, .slice Av b4.length cv, G⟩ := List.getElem_set_self _; rw [e]; rfl) (by have e : (p.putP k ⟨⟨b0, b1, b2, b3, b4⟩, .slice Av b4.length cv, G⟩ (p.us ++ uj) vu gu).lb[k]'(by show k < (p.lb.set k _).length; rw [List.length_set]; exact hk) = ⟨⟨b0, b1, b2, b3, b4⟩, .slice Av b4.length cv, G⟩ := List.getElem_set_self _; rw [e]) (by have e : (p.putP k ⟨⟨b0, b1, b2, b3, b4⟩, .slice Av b4.length cv, G⟩ (p.us ++ uj) vu gu).lb[k]'(by show k < (p.lb.set k _).length; rw [List.length_set]; exact hk) = ⟨⟨b0, b1, b2, b3, b4⟩, .slice Av b4.length cv, G⟩ := List.getElem_set_self _; rw [e]) (by have e : (p.putP k ⟨⟨b0, b1, b2, b3, b4⟩, .slice Av b4.length cv, G⟩ (p.us ++ uj) vu gu).lb[k]'(by show k < (p.lb.set k _).length; rw [List.length_set]; exact hk) = ⟨⟨b0, b1, b2, b3, b4⟩, .slice Av b4.length cv, G⟩ := List.getElem_set_self _; rw [e]))
      have eP : ({ (p.putP k ⟨⟨b0, b1, b2, b3, b4⟩, .slice Av b4.length cv, G⟩ (p.us ++ uj) vu gu) with lb := (p.putP k ⟨⟨b0, b1, b2, b3, b4⟩, .slice Av b4.length cv, G⟩ (p.us ++ uj) vu gu).lb.set k ⟨⟨b0, b1, b2, b3 + 1, b4⟩, .slice Av b4.length cv, G⟩ } : PA) = (p.putP k ⟨⟨b0, b1, b2, b3 + 1, b4⟩, .slice Av b4.length cv, G⟩ (p.us ++ uj) vu gu) := by
        show ({ p with lb := (p.lb.set k _).set k _, us := _, vu := _, gu := _ } : PA) = _
        rw [List.set_set]
        rfl
      rw [eP] at HSc
      clear eP
      have HKc : Hid (Blk (Wb.setCell ⟨g, o + k * 5 + 3, none⟩ (.int .i64 (b3 + 1))) wr.heap.size #[.int .i64 b3, .int .i64 m1, .int .i64 m2, .string ⟨m3.toArray⟩] 47) := HKb.out.set_other ⟨g, o + k * 5 + 3, none⟩ _ hgY
      obtain ⟨k4, f4⟩ := HC.out _ ALb 4 (by omega)
      rw [hWbe.out] at k4 f4
      have k4c : (Wb.setCell ⟨g, o + k * 5 + 3, none⟩ (.int .i64 (b3 + 1))).cell? ⟨g, o + k * 5 + 4, none⟩ = some (.slice Av b4.length cv) := by
        rw [World.cell?_setCell_other _ ⟨g, o + k * 5 + 3, none⟩ ⟨g, o + k * 5 + 4, none⟩ _ (fun e => by have := congrArg Addr.off e; simp only at this; omega)]
        exact k4
      have f4c : (Wb.setCell ⟨g, o + k * 5 + 3, none⟩ (.int .i64 (b3 + 1))).frozen? ⟨g, o + k * 5 + 4, none⟩ = false := by rw [World.frozen?_setCell]; exact f4
      have HMc : Hid (Mvs (fun i => i = wr.heap.size ∨ i = g) wr (Wb.setCell ⟨g, o + k * 5 + 3, none⟩ (.int .i64 (b3 + 1)))) := (HMb.out.mono (fun _ _ e => Or.inl e)).setCell _ _ (fun _ => Or.inr rfl)
      clear k3c f3b k4 f4 HSb HKb HMb
      obtain ⟨Wc, hWc⟩ : ∃ Wc, Hid (Wb.setCell ⟨g, o + k * 5 + 3, none⟩ (.int .i64 (b3 + 1)) = Wc) := ⟨_, hide rfl⟩
      rw [hWc.out] at HSc HKc k4c f4c HMc ⊢
      clear hWc ALb hw
      have HT0 : Wc.drew.cell? ⟨g, o + k * 5 + 4, none⟩ = some (.slice Av b4.length cv) ∧ Wc.drew.cell? ⟨wr.heap.size, 0, none⟩ = some (.int .i64 b3) ∧ Wc.drew.cell? ⟨wr.heap.size, 1, none⟩ = some (.int .i64 m1) ∧ Wc.drew.cell? ⟨wr.heap.size, 2, none⟩ = some (.int .i64 m2) ∧ Wc.drew.cell? ⟨wr.heap.size, 3, none⟩ = some (.string ⟨m3.toArray⟩) := ⟨k4c, HKc.out.cell 0, HKc.out.cell 1, HKc.out.cell 2, HKc.out.cell 3⟩
      refine regionL 10 (fun W => W.cell? ⟨g, o + k * 5 + 4, none⟩ = some (.slice Av b4.length cv) ∧ W.cell? ⟨wr.heap.size, 0, none⟩ = some (.int .i64 b3) ∧ W.cell? ⟨wr.heap.size, 1, none⟩ = some (.int .i64 m1) ∧ W.cell? ⟨wr.heap.size, 2, none⟩ = some (.int .i64 m2) ∧ W.cell? ⟨wr.heap.size, 3, none⟩ = some (.string ⟨m3.toArray⟩)) (by kernel_rfl) ?_
      refine takeW (i := 0) (v := .pointer (some ⟨g, o + k * 5, none⟩)) rfl (by kernel_rfl) (by kernel_rfl) (by kernel_rfl) rfl (fun _ _ _ h => h) (fun _ => HT0) (Or.inl ⟨by rfl, fun W _ => by go_simp⟩) ?_
      try simp only [Act.put, List.getElem_toArray, List.getElem_cons_succ, List.getElem_cons_zero, List.setIfInBounds_toArray, List.set_cons_zero, List.set_cons_succ]
      refine takeW (i := 1) (v := .pointer (some ⟨g, o + k * 5, none⟩)) rfl (by kernel_rfl) (by kernel_rfl) (by kernel_rfl) rfl (fun _ _ _ h => h) (fun _ => HT0) (Or.inl ⟨by rfl, fun W _ => by go_simp⟩) ?_
      try simp only [Act.put, List.getElem_toArray, List.getElem_cons_succ, List.getElem_cons_zero, List.setIfInBounds_toArray, List.set_cons_zero, List.set_cons_succ]
      refine takeW (i := 2) (v := .pointer (some ⟨g, o + k * 5, none⟩)) rfl (by kernel_rfl) (by kernel_rfl) (by kernel_rfl) rfl (fun _ _ _ h => h) (fun _ => HT0) (Or.inl ⟨by rfl, fun W _ => by go_simp⟩) ?_
      try simp only [Act.put, List.getElem_toArray, List.getElem_cons_succ, List.getElem_cons_zero, List.setIfInBounds_toArray, List.set_cons_zero, List.set_cons_succ]
      refine takeW (i := 3) (v := .pointer (some ⟨g, o + k * 5 + 4, none⟩)) rfl (by kernel_rfl) (by kernel_rfl) (by kernel_rfl) rfl (fun _ _ _ h => h) (fun _ => HT0) (Or.inl ⟨by rfl, fun W _ => by go_simp⟩) ?_
      try simp only [Act.put, List.getElem_toArray, List.getElem_cons_succ, List.getElem_cons_zero, List.setIfInBounds_toArray, List.set_cons_zero, List.set_cons_succ]
      refine takeL (i := 4) (v := .slice Av b4.length cv) rfl (by kernel_rfl) (by kernel_rfl) (by kernel_rfl) (by kernel_rfl) (by kernel_rfl) (fun _ _ _ h => h) HT0 (Or.inl ⟨by rfl, fun W hW => by obtain ⟨t0, t1, t2, t3, t4⟩ := hW; go_simp⟩) ?_
      try simp only [Act.put, List.getElem_toArray, List.getElem_cons_succ, List.getElem_cons_zero, List.setIfInBounds_toArray, List.set_cons_zero, List.set_cons_succ]
      refine takeL (i := 5) (v := .agg #[.int .i64 b3, .int .i64 m1, .int .i64 m2, .string ⟨m3.toArray⟩]) rfl (by kernel_rfl) (by kernel_rfl) (by kernel_rfl) (by kernel_rfl) (by kernel_rfl) (fun _ _ _ h => h) HT0 (Or.inl ⟨by rfl, fun W hW => by obtain ⟨t0, t1, t2, t3, t4⟩ := hW; go_simp⟩) ?_
      try simp only [Act.put, List.getElem_toArray, List.getElem_cons_succ, List.getElem_cons_zero, List.setIfInBounds_toArray, List.set_cons_zero, List.set_cons_succ]
      refine readyL (rs := [6]) (by kernel_rfl) (by simp) ?_
      refine AllL.cons rfl (fun K hK => ?_) AllL.nil
      try simp only [List.getElem_toArray, List.getElem_cons_succ, List.getElem_cons_zero]
      go_simp
      have AL2 : Below Wc.heap.size Wc (Wc.drew.alloc (.cells #[.int .i64 b3, .int .i64 m1, .int .i64 m2, .string ⟨m3.toArray⟩] 47)) := (Below.refl _ _).drew.alloc (Nat.le_refl _) _
      have hgc : g < Wc.heap.size := HSc.out.rb.lt g HGb.out
      have hYc := HKc.out.lt
      have HT1 : (Wc.drew.alloc (.cells #[.int .i64 b3, .int .i64 m1, .int .i64 m2, .string ⟨m3.toArray⟩] 47)).cell? ⟨g, o + k * 5 + 4, none⟩ = some (.slice Av b4.length cv) ∧ (Wc.drew.alloc (.cells #[.int .i64 b3, .int .i64 m1, .int .i64 m2, .string ⟨m3.toArray⟩] 47)).cell? ⟨wr.heap.size, 0, none⟩ = some (.int .i64 b3) ∧ (Wc.drew.alloc (.cells #[.int .i64 b3, .int .i64 m1, .int .i64 m2, .string ⟨m3.toArray⟩] 47)).cell? ⟨wr.heap.size, 1, none⟩ = some (.int .i64 m1) ∧ (Wc.drew.alloc (.cells #[.int .i64 b3, .int .i64 m1, .int .i64 m2, .string ⟨m3.toArray⟩] 47)).cell? ⟨wr.heap.size, 2, none⟩ = some (.int .i64 m2) ∧ (Wc.drew.alloc (.cells #[.int .i64 b3, .int .i64 m1, .int .i64 m2, .string ⟨m3.toArray⟩] 47)).cell? ⟨wr.heap.size, 3, none⟩ = some (.string ⟨m3.toArray⟩) := ⟨cell_belowP AL2 hgc HT0.1, cell_belowP AL2 hYc HT0.2.1, cell_belowP AL2 hYc HT0.2.2.1, cell_belowP AL2 hYc HT0.2.2.2.1, cell_belowP AL2 hYc HT0.2.2.2.2⟩
      refine hK.out _ _ (fun _ => HT1) (fun _ => ?_)
      clear hK K HT0
      have HT0 := HT1
      clear HT1
      try simp only [Act.put, List.getElem_toArray, List.getElem_cons_succ, List.getElem_cons_zero, List.setIfInBounds_toArray, List.set_cons_zero, List.set_cons_succ]
      have hk3 : k < (p.putP k ⟨⟨b0, b1, b2, b3 + 1, b4⟩, .slice Av b4.length cv, G⟩ (p.us ++ uj) vu gu).lb.length := by show k < (p.lb.set k _).length; rw [List.length_set]; exact hk
      have e3 : (p.putP k ⟨⟨b0, b1, b2, b3 + 1, b4⟩, .slice Av b4.length cv, G⟩ (p.us ++ uj) vu gu).lb[k]'hk3 = ⟨⟨b0, b1, b2, b3 + 1, b4⟩, .slice Av b4.length cv, G⟩ := List.getElem_set_self _
      have hmem3 : (⟨⟨b0, b1, b2, b3 + 1, b4⟩, .slice Av b4.length cv, G⟩ : BL) ∈ (p.putP k ⟨⟨b0, b1, b2, b3 + 1, b4⟩, .slice Av b4.length cv, G⟩ (p.us ++ uj) vu gu).lb := by have := List.getElem_mem hk3; rwa [e3] at this
      have hrb := (HSc.out.rm _ hmem3).keep (Mvs.of_below (S := fun _ => False) AL2) (fun _ _ c => c)
      dsimp only at hrb
      have hsrc : Src Tryz.prog 4 43 (.slice (some ⟨Wc.heap.size, 0, none⟩) 1 1) 1 (msC (⟨b3, m1, m2, m3⟩ : Msg)) (Wc.drew.alloc (.cells #[.int .i64 b3, .int .i64 m1, .int .i64 m2, .string ⟨m3.toArray⟩] 47)) := by
        have hk := Blk.new Wc.drew #[.int .i64 b3, .int .i64 m1, .int .i64 m2, .string ⟨m3.toArray⟩] 47
        refine Src.ofSlice _ Tryz.underlying43 ⟨Wc.heap.size, 0, none⟩ 1 1 _ rfl (fun j u hu => ?_) (fun u hu => by simp only [msC, List.mem_cons, List.not_mem_nil, or_false] at hu; rcases hu with rfl | rfl | rfl | rfl <;> rfl)
        rw [Go.WideShapes.add_plain, Nat.zero_add]
        exact (hk.cell j).trans (by rw [← hu]; simp [msC])
      refine readyL (rs := [7]) (by kernel_rfl) (by simp) ?_
      refine AllL.cons rfl (fun K hK => ?_) AllL.nil
      refine step_append_rw (by rfl) (.tmp 39) (.tmp 41) 43 43 (by rfl) 47 i0 (.agg #[.int .i64 0, .int .i64 0, .int .i64 0, .string ⟨#[]⟩]) 4 40 Tryz.underlying43 hi hz0 hz1 hz2 (by rfl) (by simp [Act.eval, Act.put]) hrb (.slice (some ⟨Wc.heap.size, 0, none⟩) 1 1) 1 _ (by simp [Act.eval, Act.put]) hsrc (by simp only [maxLen]; omega) (by omega) ?_
      intro v3 w3 G3 hr3 hm3 hg3
      have hmw : Mvs (fun i => some i = G) Wc w3 := (((Mvs.refl (fun i => some i = G) Wc).drew).alloc _).trans hm3
      have hgG : ¬ some g = G := fun e => sep_ne HSc.out.sep (i := 0) (j := k + 4) (by rw [blocks_len]; omega) (by rw [blocks_len]; show k + 4 < 4 + (p.lb.set k _).length + _; rw [List.length_set]; omega) (by omega) g (by rw [blocks_lb _ k hk3, e3]; exact e.symm) (by show some g = p.gb; exact HGb.out.symm)
      have hkJ : k < (p.putP k ⟨⟨b0, b1, b2, b3, b4⟩, .slice Av b4.length cv, G⟩ (p.us ++ uj) vu gu).lb.length := by show k < (p.lb.set k _).length; rw [List.length_set]; exact hk
      have eJ : (p.putP k ⟨⟨b0, b1, b2, b3, b4⟩, .slice Av b4.length cv, G⟩ (p.us ++ uj) vu gu).lb[k]'hkJ = ⟨⟨b0, b1, b2, b3, b4⟩, .slice Av b4.length cv, G⟩ := List.getElem_set_self _
      have hGm : G ∈ (p.putP k ⟨⟨b0, b1, b2, b3, b4⟩, .slice Av b4.length cv, G⟩ (p.us ++ uj) vu gu).blocks := by
        have h1 := blocks_lb (p.putP k ⟨⟨b0, b1, b2, b3, b4⟩, .slice Av b4.length cv, G⟩ (p.us ++ uj) vu gu) k hkJ
        rw [eJ] at h1
        have h2 := List.getElem_mem (l := (p.putP k ⟨⟨b0, b1, b2, b3, b4⟩, .slice Av b4.length cv, G⟩ (p.us ++ uj) vu gu).blocks) (n := k + 4) (by rw [blocks_len]; omega)
        rwa [h1] at h2
      have hYG : ¬ some wr.heap.size = G := fun e => hYb (by rw [e]; exact hGm)
      have HT1 : w3.cell? ⟨g, o + k * 5 + 4, none⟩ = some (.slice Av b4.length cv) ∧ w3.cell? ⟨wr.heap.size, 0, none⟩ = some (.int .i64 b3) ∧ w3.cell? ⟨wr.heap.size, 1, none⟩ = some (.int .i64 m1) ∧ w3.cell? ⟨wr.heap.size, 2, none⟩ = some (.int .i64 m2) ∧ w3.cell? ⟨wr.heap.size, 3, none⟩ = some (.string ⟨m3.toArray⟩) := ⟨(hmw.cell (a := ⟨g, _, none⟩) hgc hgG).trans k4c, (hmw.cell (a := ⟨wr.heap.size, _, none⟩) hYc hYG).trans (HKc.out.cell 0), (hmw.cell (a := ⟨wr.heap.size, _, none⟩) hYc hYG).trans (HKc.out.cell 1), (hmw.cell (a := ⟨wr.heap.size, _, none⟩) hYc hYG).trans (HKc.out.cell 2), (hmw.cell (a := ⟨wr.heap.size, _, none⟩) hYc hYG).trans (HKc.out.cell 3)⟩
      refine hK.out _ _ (fun _ => HT1) (fun _ => ?_)
      clear hK K HT0
      have HT0 := HT1
      clear HT1
      try simp only [Act.put, List.getElem_toArray, List.getElem_cons_succ, List.getElem_cons_zero, List.setIfInBounds_toArray, List.set_cons_zero, List.set_cons_succ]
      refine takeW (i := 8) (v := .pointer (some ⟨g, o + k * 5, none⟩)) rfl (by kernel_rfl) (by kernel_rfl) (by kernel_rfl) rfl (fun _ _ _ h => h) (fun _ => HT0) (Or.inl ⟨by rfl, fun W _ => by go_simp⟩) ?_
      try simp only [Act.put, List.getElem_toArray, List.getElem_cons_succ, List.getElem_cons_zero, List.setIfInBounds_toArray, List.set_cons_zero, List.set_cons_succ]
      refine takeW (i := 9) (v := .pointer (some ⟨g, o + k * 5 + 4, none⟩)) rfl (by kernel_rfl) (by kernel_rfl) (by kernel_rfl) rfl (fun _ _ _ h => h) (fun _ => HT0) (Or.inl ⟨by rfl, fun W _ => by go_simp⟩) ?_
      try simp only [Act.put, List.getElem_toArray, List.getElem_cons_succ, List.getElem_cons_zero, List.setIfInBounds_toArray, List.set_cons_zero, List.set_cons_succ]
      obtain ⟨A3, c3, hv3⟩ := hr3.form
      subst hv3
      have e0 := HT0.1
      have y0 := (hmw.frozen (a := ⟨g, o + k * 5 + 4, none⟩) hgc hgG).trans f4c
      refine readyL (rs := [10]) (by kernel_rfl) (by simp) ?_
      refine AllL.cons rfl (fun K hK => ?_) AllL.nil
      try simp only [List.getElem_toArray, List.getElem_cons_succ, List.getElem_cons_zero]
      go_simp
      refine hK.out _ _ (vac (by kernel_rfl)) (fun _ => ?_)
      clear hK K HT0
      try simp only [Act.put, List.getElem_toArray, List.getElem_cons_succ, List.getElem_cons_zero, List.setIfInBounds_toArray, List.set_cons_zero, List.set_cons_succ]
      refine doneL (by kernel_rfl) ?_ _
      have hsm := HSc.out.setM (g := g) (o := o) (c := c1) HGb.out (by show p.vb = .slice (some ⟨g, o, none⟩) (p.lb.set k _).length c1; rw [List.length_set]; exact HV.out) k hk3 (.slice A3 (b4.length + 1) c3) G3 (b4 ++ [⟨b3, m1, m2, m3⟩]) (by rw [e3]; exact hmw) (by rw [List.length_append, List.flatMap_append]; simpa using hr3) (by rw [e3]; exact hg3.imp id (fun e => ⟨_, e, by simp⟩))
      rw [e3] at hsm
      have eP : ({ (p.putP k ⟨⟨b0, b1, b2, b3 + 1, b4⟩, .slice Av b4.length cv, G⟩ (p.us ++ uj) vu gu) with lb := (p.putP k ⟨⟨b0, b1, b2, b3 + 1, b4⟩, .slice Av b4.length cv, G⟩ (p.us ++ uj) vu gu).lb.set k { b := { (⟨⟨b0, b1, b2, b3 + 1, b4⟩, .slice Av b4.length cv, G⟩ : BL).b with msgs := b4 ++ [⟨b3, m1, m2, m3⟩] }, v := .slice A3 (b4.length + 1) c3, G := G3 } } : PA) = (p.putP k ⟨⟨b0, b1, b2, b3 + 1, b4 ++ [⟨b3, m1, m2, m3⟩]⟩, .slice A3 (b4.length + 1) c3, G3⟩ (p.us ++ uj) vu gu) := by
        show ({ p with lb := (p.lb.set k _).set k _, us := _, vu := _, gu := _ } : PA) = _
        rw [List.set_set]
        rfl
      rw [eP] at hsm
      have HSe := hide hsm
      have hme : Mvs (fun i => some i = G ∨ i = g) Wc (w3.setCell ⟨g, o + k * 5 + 4, none⟩ (.slice A3 (b4.length + 1) c3)) := (hmw.mono (fun _ _ e => Or.inl e)).setCell _ _ (fun _ => Or.inr rfl)
      have HKe := hide (hme.blk HKc.out (fun e => by rcases e with e | e; exact hYG e; exact hgY e.symm))
      have HMe : Hid (Mvs (fun i => i = wr.heap.size ∨ i = g ∨ some i = G) wr (w3.setCell ⟨g, o + k * 5 + 4, none⟩ (.slice A3 (b4.length + 1) c3))) := (HMc.out.mono (fun i _ e => by rcases e with e | e; exact .inl e; exact .inr (.inl e))).trans (hme.mono (fun i _ e => by rcases e with e | e; exact .inr (.inr e); exact .inr (.inl e)))
      obtain ⟨We, hWe⟩ : ∃ We, Hid (w3.setCell ⟨g, o + k * 5 + 4, none⟩ (.slice A3 (b4.length + 1) c3) = We) := ⟨_, hide rfl⟩
      rw [hWe.out] at HSe HKe HMe ⊢
      clear hWe hme hmw hsm eP e0 y0 hrb hsrc hm3 hr3 AL2 HKc HMc HSc
      obtain ⟨nu, hnu⟩ : ∃ nu, Hid ((p.us ++ uj).length = nu) := ⟨_, hide rfl⟩
      obtain ⟨Au, cu, hvu⟩ := HSe.out.ru.form
      have hvu2 : vu = .slice Au (p.us ++ uj).length cu := hvu
      rw [hnu.out] at hvu2 huj
      subst hvu2
      clear hvu
      have hru0 : Rw We 1 (.slice Au nu cu) nu ((p.us ++ uj).flatMap inC) gu := by
        have h : Rw We 1 (.slice Au nu cu) (p.us ++ uj).length ((p.us ++ uj).flatMap inC) gu := HSe.out.ru
        rwa [hnu.out] at h
      have hus2 : Hid (∀ i, gu = some i → i < w.heap.size → some i ∈ p.blocks) := HO.out.2
      have hYu : ¬ some wr.heap.size = gu := fun e => hYb (by rw [e]; simp [PA.blocks, PA.putP])
      have hXu : ¬ some X = gu := fun e => (HSe.out.own X (by rw [e]; simp [PA.blocks, PA.putP])).2 rfl
      have hXe := HSe.out.blk.lt
      have hYe := HKe.out.lt
      have x17 : We.cell? ⟨X, 17, none⟩ = some (.slice Au nu cu) := HSe.out.blk.cell 17
      go_upto_region 8 with fail
      have HT0 : We.drew.cell? ⟨X, 17, none⟩ = some (.slice Au nu cu) ∧ We.drew.cell? ⟨wr.heap.size, 0, none⟩ = some (.int .i64 b3) := ⟨x17, HKe.out.cell 0⟩
      refine regionL 13 (fun W => W.cell? ⟨X, 17, none⟩ = some (.slice Au nu cu) ∧ W.cell? ⟨wr.heap.size, 0, none⟩ = some (.int .i64 b3)) (by kernel_rfl) ?_
      refine takeW (i := 0) (v := .pointer (some ⟨X, 0, none⟩)) rfl (by kernel_rfl) (by kernel_rfl) (by kernel_rfl) rfl (fun _ _ _ h => h) (fun _ => HT0) (Or.inl ⟨by rfl, fun W _ => by go_simp⟩) ?_
      try simp only [Act.put, List.getElem_toArray, List.getElem_cons_succ, List.getElem_cons_zero, List.setIfInBounds_toArray, List.set_cons_zero, List.set_cons_succ]
      refine takeW (i := 1) (v := .pointer (some ⟨X, 0, none⟩)) rfl (by kernel_rfl) (by kernel_rfl) (by kernel_rfl) rfl (fun _ _ _ h => h) (fun _ => HT0) (Or.inl ⟨by rfl, fun W _ => by go_simp⟩) ?_
      try simp only [Act.put, List.getElem_toArray, List.getElem_cons_succ, List.getElem_cons_zero, List.setIfInBounds_toArray, List.set_cons_zero, List.set_cons_succ]
      refine takeW (i := 2) (v := .pointer (some ⟨X, 0, none⟩)) rfl (by kernel_rfl) (by kernel_rfl) (by kernel_rfl) rfl (fun _ _ _ h => h) (fun _ => HT0) (Or.inl ⟨by rfl, fun W _ => by go_simp⟩) ?_
      try simp only [Act.put, List.getElem_toArray, List.getElem_cons_succ, List.getElem_cons_zero, List.setIfInBounds_toArray, List.set_cons_zero, List.set_cons_succ]
      refine takeW (i := 3) (v := .pointer (some ⟨X, 17, none⟩)) rfl (by kernel_rfl) (by kernel_rfl) (by kernel_rfl) rfl (fun _ _ _ h => h) (fun _ => HT0) (Or.inl ⟨by rfl, fun W _ => by go_simp⟩) ?_
      try simp only [Act.put, List.getElem_toArray, List.getElem_cons_succ, List.getElem_cons_zero, List.setIfInBounds_toArray, List.set_cons_zero, List.set_cons_succ]
      refine takeW (i := 4) (v := .pointer (some ⟨X, 17, none⟩)) rfl (by kernel_rfl) (by kernel_rfl) (by kernel_rfl) rfl (fun _ _ _ h => h) (fun _ => HT0) (Or.inl ⟨by rfl, fun W _ => by go_simp⟩) ?_
      try simp only [Act.put, List.getElem_toArray, List.getElem_cons_succ, List.getElem_cons_zero, List.setIfInBounds_toArray, List.set_cons_zero, List.set_cons_succ]
      refine takeL (i := 5) (v := .slice Au nu cu) rfl (by kernel_rfl) (by kernel_rfl) (by kernel_rfl) (by kernel_rfl) (by kernel_rfl) (fun _ _ _ h => h) HT0 (Or.inl ⟨by rfl, fun W hW => by obtain ⟨t0, t1⟩ := hW; go_simp⟩) ?_
      try simp only [Act.put, List.getElem_toArray, List.getElem_cons_succ, List.getElem_cons_zero, List.setIfInBounds_toArray, List.set_cons_zero, List.set_cons_succ]
      refine takeW (i := 6) (v := .pointer (some ⟨wr.heap.size, 0, none⟩)) rfl (by kernel_rfl) (by kernel_rfl) (by kernel_rfl) rfl (fun _ _ _ h => h) (fun _ => HT0) (Or.inl ⟨by rfl, fun W _ => by go_simp⟩) ?_
      try simp only [Act.put, List.getElem_toArray, List.getElem_cons_succ, List.getElem_cons_zero, List.setIfInBounds_toArray, List.set_cons_zero, List.set_cons_succ]
      refine takeL (i := 7) (v := .int .i64 b3) rfl (by kernel_rfl) (by kernel_rfl) (by kernel_rfl) (by kernel_rfl) (by kernel_rfl) (fun _ _ _ h => h) HT0 (Or.inl ⟨by rfl, fun W hW => by obtain ⟨t0, t1⟩ := hW; go_simp⟩) ?_
      try simp only [Act.put, List.getElem_toArray, List.getElem_cons_succ, List.getElem_cons_zero, List.setIfInBounds_toArray, List.set_cons_zero, List.set_cons_succ]
      refine readyL (rs := [8]) (by kernel_rfl) (by simp) ?_
      refine AllL.cons rfl (fun K hK => ?_) AllL.nil
      try simp only [List.getElem_toArray, List.getElem_cons_succ, List.getElem_cons_zero]
      go_simp
      have AL3 : Below We.heap.size We (We.drew.alloc (.cells #[.int .i64 b3] 3)) := (Below.refl _ _).drew.alloc (Nat.le_refl _) _
      have HT1 : (We.drew.alloc (.cells #[.int .i64 b3] 3)).cell? ⟨X, 17, none⟩ = some (.slice Au nu cu) ∧ (We.drew.alloc (.cells #[.int .i64 b3] 3)).cell? ⟨wr.heap.size, 0, none⟩ = some (.int .i64 b3) := ⟨cell_belowP AL3 hXe HT0.1, cell_belowP AL3 hYe HT0.2⟩
      refine hK.out _ _ (fun _ => HT1) (fun _ => ?_)
      clear hK K HT0
      have HT0 := HT1
      clear HT1
      try simp only [Act.put, List.getElem_toArray, List.getElem_cons_succ, List.getElem_cons_zero, List.setIfInBounds_toArray, List.set_cons_zero, List.set_cons_succ]
      have hru := hru0.keep (Mvs.of_below (S := fun _ => False) AL3) (fun _ _ c => c)
      have hsrc := srcI (w := We.drew) b3 (c := 1)
      refine readyL (rs := [9]) (by kernel_rfl) (by simp) ?_
      refine AllL.cons rfl (fun K hK => ?_) AllL.nil
      refine step_append_rw (by rfl) (.tmp 50) (.tmp 53) 34 34 (by rfl) 3 i1 (.int .i64 0) 1 8 Tryz.underlying34 hj1 hy0 hy1 hy2 (by rfl) (by simp [Act.eval, Act.put]) hru (.slice (some ⟨We.heap.size, 0, none⟩) 1 1) 1 _ (by simp [Act.eval, Act.put]) hsrc (by simp only [maxLen]; omega) (by omega) ?_
      intro v4 w4 G4 hr4 hm4 hg4
      have hmw : Mvs (fun i => some i = gu) We w4 := (((Mvs.refl (fun i => some i = gu) We).drew).alloc _).trans hm4
      have HT1 : w4.cell? ⟨X, 17, none⟩ = some (.slice Au nu cu) ∧ w4.cell? ⟨wr.heap.size, 0, none⟩ = some (.int .i64 b3) := ⟨(hmw.cell (a := ⟨X, _, none⟩) hXe hXu).trans x17, (hmw.cell (a := ⟨wr.heap.size, _, none⟩) hYe hYu).trans (HKe.out.cell 0)⟩
      refine hK.out _ _ (fun _ => HT1) (fun _ => ?_)
      clear hK K HT0
      have HT0 := HT1
      clear HT1
      try simp only [Act.put, List.getElem_toArray, List.getElem_cons_succ, List.getElem_cons_zero, List.setIfInBounds_toArray, List.set_cons_zero, List.set_cons_succ]
      refine takeW (i := 10) (v := .pointer (some ⟨X, 0, none⟩)) rfl (by kernel_rfl) (by kernel_rfl) (by kernel_rfl) rfl (fun _ _ _ h => h) (fun _ => HT0) (Or.inl ⟨by rfl, fun W _ => by go_simp⟩) ?_
      try simp only [Act.put, List.getElem_toArray, List.getElem_cons_succ, List.getElem_cons_zero, List.setIfInBounds_toArray, List.set_cons_zero, List.set_cons_succ]
      refine takeW (i := 11) (v := .pointer (some ⟨X, 17, none⟩)) rfl (by kernel_rfl) (by kernel_rfl) (by kernel_rfl) rfl (fun _ _ _ h => h) (fun _ => HT0) (Or.inl ⟨by rfl, fun W _ => by go_simp⟩) ?_
      try simp only [Act.put, List.getElem_toArray, List.getElem_cons_succ, List.getElem_cons_zero, List.setIfInBounds_toArray, List.set_cons_zero, List.set_cons_succ]
      refine takeW (i := 12) (v := .pointer (some ⟨X, 17, none⟩)) rfl (by kernel_rfl) (by kernel_rfl) (by kernel_rfl) rfl (fun _ _ _ h => h) (fun _ => HT0) (Or.inl ⟨by rfl, fun W _ => by go_simp⟩) ?_
      try simp only [Act.put, List.getElem_toArray, List.getElem_cons_succ, List.getElem_cons_zero, List.setIfInBounds_toArray, List.set_cons_zero, List.set_cons_succ]
      obtain ⟨A4, c4, hv4⟩ := hr4.form
      subst hv4
      have e0 := HT0.1
      have y0 := (hmw.frozen (a := ⟨X, 17, none⟩) hXe hXu).trans (HSe.out.blk.frozen 17)
      refine readyL (rs := [13]) (by kernel_rfl) (by simp) ?_
      refine AllL.cons rfl (fun K hK => ?_) AllL.nil
      try simp only [List.getElem_toArray, List.getElem_cons_succ, List.getElem_cons_zero]
      go_simp
      refine hK.out _ _ (vac (by kernel_rfl)) (fun _ => ?_)
      clear hK K HT0
      try simp only [Act.put, List.getElem_toArray, List.getElem_cons_succ, List.getElem_cons_zero, List.setIfInBounds_toArray, List.set_cons_zero, List.set_cons_succ]
      refine doneL (by kernel_rfl) ?_ _
      have hsu := HSe.out.setU (.slice A4 (nu + 1) c4) G4 (p.us ++ uj ++ [b3]) hmw (by rw [List.length_append, List.flatMap_append, hnu.out]; exact hr4) (hg4.imp id (fun e => ⟨_, e, by simp⟩))
      have HSf : Hid (AS w0 (w4.setCell ⟨X, 17, none⟩ (.slice A4 (nu + 1) c4)) X (p.putP k ⟨⟨b0, b1, b2, b3 + 1, b4 ++ [⟨b3, m1, m2, m3⟩]⟩, .slice A3 (b4.length + 1) c3, G3⟩ (p.us ++ (uj ++ [b3])) (.slice A4 (nu + 1) c4) G4)) := by
        rw [← List.append_assoc]
        exact hsu
      have hs1 := HM.out.size
      have hs2 := HMe.out.size
      have HMf : Hid (Mvs (fun j => some j ∈ p.blocks ∨ j = X) w (w4.setCell ⟨X, 17, none⟩ (.slice A4 (nu + 1) c4))) := by
        have h1 : Mvs (fun i => i = wr.heap.size ∨ i = g ∨ some i = G ∨ some i = gu ∨ i = X) wr (w4.setCell ⟨X, 17, none⟩ (.slice A4 (nu + 1) c4)) := ((HMe.out.mono (fun i _ e => by rcases e with e | e | e; exact .inl e; exact .inr (.inl e); exact .inr (.inr (.inl e)))).trans (hmw.mono (fun i _ e => .inr (.inr (.inr (.inl e)))))).setCell _ _ (fun _ => .inr (.inr (.inr (.inr rfl))))
        refine HM.out.trans' h1 (fun i hi e => ?_)
        rcases e with e | e | e | e | e
        · omega
        · exact .inl (by rw [e, ← HGb.out]; simp [PA.blocks])
        · exact .inl (HO.out.1 i e.symm hi)
        · exact .inl (HO.out.2 i e.symm hi)
        · exact .inr e
      have HOf : Hid ((∀ i, G3 = some i → i < w.heap.size → some i ∈ p.blocks) ∧ (∀ i, G4 = some i → i < w.heap.size → some i ∈ p.blocks)) := by
        refine ⟨fun i e hi => ?_, fun i e hi => ?_⟩
        · rcases hg3 with h | h
          · exact HO.out.1 i (by rw [← h]; exact e) hi
          · rw [h] at e
            simp at e
            omega
        · rcases hg4 with h | h
          · exact HO.out.2 i (by rw [← h]; exact e) hi
          · rw [h] at e
            simp at e
            omega
      go_wp2
      go_roundw
      case rel => exact ⟨j + 1, by go_num, by omega, _, _, _, _, by rw [HNx.out]; exact HSf.out, HMf.out, HOf.out⟩
      case measure => simp [intOf]; omega
    · skip
      obtain rfl : j = lm := by omega
      have hltz : ¬ (j : Int) < (j : Int) := by omega
      have htk : ms.take j = ms := List.take_of_length_le (by rw [hlm.out]; exact Nat.le_refl _)
      rw [htk] at HS
      have hbdr := poPut_bodies ms p.lb[k].b hbd.1 hbd.2
      have hlnr : (poPut p.lb[k].b ms).1.msgs.length ≤ 1000000 := by have := (poPut_len ms p.lb[k].b).1; have := hlm.out; omega
      obtain ⟨r, hr⟩ : ∃ r, Hid (poPut p.lb[k].b ms = r) := ⟨_, hide rfl⟩
      rw [hr.out] at HS hQ hbdr hlnr
      clear htk hr
      obtain ⟨⟨b0, b1, b2, b3, b4⟩, uj⟩ := r
      dsimp only at HS hQ hbdr hlnr
      have hk' : k < (p.putP k ⟨⟨b0, b1, b2, b3, b4⟩, v, G⟩ (p.us ++ uj) vu gu).lb.length := by show k < (p.lb.set k _).length; rw [List.length_set]; exact hk
      have hx : (p.putP k ⟨⟨b0, b1, b2, b3, b4⟩, v, G⟩ (p.us ++ uj) vu gu).lb[k]'hk' = ⟨⟨b0, b1, b2, b3, b4⟩, v, G⟩ := List.getElem_set_self _
      obtain ⟨A', c', ev', _, hat⟩ := rw_at blC_len HS.out.rb
      have hlb : (p.putP k ⟨⟨b0, b1, b2, b3, b4⟩, v, G⟩ (p.us ++ uj) vu gu).lb.length = p.lb.length := by show (p.lb.set k _).length = _; rw [List.length_set]
      rw [hlb] at ev'
      have ev2 : Value.slice (some ⟨g, o, none⟩) p.lb.length c1 = .slice A' p.lb.length c' := HV.out.symm.trans ev'
      simp only [Value.slice.injEq, true_and] at ev2
      obtain ⟨rfl, rfl⟩ := ev2
      obtain ⟨g', o', ea', _, hgl', _, hc⟩ := hat k hk'
      cases ea'
      rw [hx] at hc
      have hrm := HS.out.rm ⟨⟨b0, b1, b2, b3, b4⟩, v, G⟩ (by have := List.getElem_mem hk'; rwa [hx] at this)
      obtain ⟨Av, cv, hvf⟩ := hrm.form
      have hvf2 : v = .slice Av b4.length cv := hvf
      subst hvf2
      have HBV : BxV wr (.agg #[.int .i64 b0, .string ⟨b1.toArray⟩, .int .i64 b2, .int .i64 b3, .slice Av b4.length cv]) (⟨b0, b1, b2, b3, b4⟩ : Bx) := ⟨_, rfl, msC_rd hrm⟩
      have HOv := hide (pover_any HBV hlnr hbdr)
      have HRo : Hid (poRoom (⟨b0, b1, b2, b3, b4⟩ : Bx) = (!poOver (⟨b0, b1, b2, b3, b4⟩ : Bx) && decide (b3 ≤ 2147483648))) := by
        show poRoom (⟨b0, b1, b2, b3, b4⟩ : Bx) = _
        unfold poRoom poOver
        rw [Bool.eq_iff_iff]
        simp only [Bool.and_eq_true, decide_eq_true_eq, Bool.not_eq_true', Bool.or_eq_false_iff, decide_eq_false_iff_not]
        omega
      clear hvf hat ev' HBV hrm hbdr hlnr
      obtain ⟨nm, hnm⟩ : ∃ nm, Hid (b4.length = nm) := ⟨_, hide rfl⟩
      have k0 : wr.cell? ⟨g, o + k * 5, none⟩ = some (.int .i64 b0) := (hc 0 (by omega)).1
      have k1 : wr.cell? ⟨g, o + k * 5 + 1, none⟩ = some (.string ⟨b1.toArray⟩) := (hc 1 (by omega)).1
      have k2 : wr.cell? ⟨g, o + k * 5 + 2, none⟩ = some (.int .i64 b2) := (hc 2 (by omega)).1
      have k3 : wr.cell? ⟨g, o + k * 5 + 3, none⟩ = some (.int .i64 b3) := (hc 3 (by omega)).1
      have k4 : wr.cell? ⟨g, o + k * 5 + 4, none⟩ = some (.slice Av b4.length cv) := (hc 4 (by omega)).1
      have HN3 : Hid (∀ W1, Below wr.heap.size wr W1 → W1.cell? ⟨g, o + k * 5 + 3, none⟩ = some (.int .i64 b3)) := fun W1 hW => (hW.cell (p := ⟨g, o + k * 5 + 3, none⟩) hgl').trans k3
      have HE11 : Hid (∀ W1, Below wr.heap.size wr W1 → W1.cell? ⟨5, 0, none⟩ = some (.iface 216 (.pointer (some (ea 10))))) := fun W1 hW => (hE.below (HS.out.bel.trans (hW.mono HS.out.bel.size))).cell 10 (by omega)
      have HFin : Hid (∀ W1, Below wr.heap.size wr W1 → (poRoom (⟨b0, b1, b2, b3, b4⟩ : Bx) = true → Q .nilIface W1) ∧ (poRoom (⟨b0, b1, b2, b3, b4⟩ : Bx) = false → Q (erV ea 11) W1)) := fun W1 hW => hQ.out W1 _ _ _ _ (HS.out.below hW) (HM.out.then hW)
      rw [HRo.out] at HFin
      clear hc HM HO hQ HS HRo
      cases hov : poOver (⟨b0, b1, b2, b3, b4⟩ : Bx) with
      | true =>
        rw [hov] at HOv HFin
        go_wp2_with (go_at_call 69; refine HOv.out.mono ?_; rintro e w5 ⟨rfl, hb⟩; have n3 := HN3.out _ hb; have ce := HE11.out _ hb; have hf := hide ((HFin.out _ hb).2 rfl); clear hb)
        exact bodyPost_ret (v := erV ea 11) (by simp [results, Tryz.results92, go_sem, erV]) rfl ⟨_, rfl, hf.out⟩
      | false =>
        rw [hov] at HOv HFin
        by_cases hn3 : b3 ≤ 2147483648
        · have hn3z : ¬ 2147483648 < b3 := by omega
          rw [decide_eq_true hn3] at HFin
          go_wp2_with (go_at_call 69; refine HOv.out.mono ?_; rintro e w5 ⟨rfl, hb⟩; have n3 := HN3.out _ hb; have ce := HE11.out _ hb; have hf := hide ((HFin.out _ hb).1 rfl); clear hb)
          exact bodyPost_ret (v := .nilIface) (by simp [results, Tryz.results92, go_sem]) rfl ⟨_, rfl, hf.out⟩
        · have hn3z : 2147483648 < b3 := by omega
          rw [decide_eq_false hn3] at HFin
          go_wp2_with (go_at_call 69; refine HOv.out.mono ?_; rintro e w5 ⟨rfl, hb⟩; have n3 := HN3.out _ hb; have ce := HE11.out _ hb; have hf := hide ((HFin.out _ hb).2 rfl); clear hb)
          exact bodyPost_ret (v := erV ea 11) (by simp [results, Tryz.results92, go_sem, erV]) rfl ⟨_, rfl, hf.out⟩
end Go.Proofs.YtdbmaobjikjifaaGreatDoorR

end
section
namespace Go.Proofs.YtdbmaobjikjifaaGreatDoorR
open Go.RowKit
section
variable {P : Program} {md : Region.Mode} {ops : Array Oper} {Q : Exit → Act → World → Prop} {c : Nat} {T : World → Prop}
theorem takeM_all {i : Nat} {oi : Oper} {v : Value} (ch : List Nat) (hi : ops[i]? = some oi) (hsel : ∀ (j : Nat) (o : Oper) cs b, ops[j]? = some o → o.op ≠ .select cs b)
    (hQ : ∀ ch a w, Q (.panic ch) (a.put oi.dst v) w → Q (.panic ch) a w) (hcc : c ∈ ch) (hw : ∀ m ∈ ch, ∃ m', (m' = i ∨ m' ∈ ch) ∧ waits md ops m m' = true) :
    ∀ (f : Nat) (L : Array Bool) (a : Act) (w : World), (∀ m ∈ ch, L.getD m true = false) →
      (∀ j oj, ops[j]? = some oj → j ≠ i → L.getD j true = false → (∀ e ∈ oj.after, Region.binds md e = true → e.on ≠ i) → oi.apart ops oj = true) →
      i ∈ Region.ready md ops L → YieldsIf P ops T oi v a → T w →
      anyL P md ops Q c T f (L.setIfInBounds i true) (a.put oi.dst v) w → anyL P md ops Q c T (f + 1) L a w := by
  have hgen : ∀ (L : Array Bool) j m', L.getD m' true = false → j ∈ Region.ready md ops L → ∀ oj, ops[j]? = some oj → ∀ e ∈ oj.after, Region.binds md e = true → e.on ≠ m' := by
    intro L j m' h0 hj oj' hoj' e he hb heq
    obtain ⟨_, oj, hoj, hall⟩ := mem_ready.1 hj
    rw [hoj] at hoj'
    cases hoj'
    have h1 := hall e he hb
    rw [heq] at h1
    rcases Nat.lt_or_ge m' L.size with h' | h'
    · simp [h'] at h0 h1
      rw [h0] at h1
      cases h1
    · simp [Array.getElem?_eq_none h'] at h1
  have hnc : ∀ (L : Array Bool) j, (∀ m ∈ ch, L.getD m true = false) → i ∈ Region.ready md ops L → j ∈ Region.ready md ops L → j ∉ ch := by
    intro L j hL hr hj hm
    obtain ⟨m', hm', hwt⟩ := hw j hm
    obtain ⟨_, oj, hoj, _⟩ := mem_ready.1 hj
    have hun : L.getD m' true = false := by
      rcases hm' with rfl | h
      · exact (mem_ready.1 hr).1
      · exact hL _ h
    unfold waits at hwt
    rw [hoj] at hwt
    obtain ⟨e, he, h2⟩ := Array.any_eq_true'.1 hwt
    simp only [Bool.and_eq_true, beq_iff_eq] at h2
    exact hgen L j m' hun hj oj hoj e he h2.1 h2.2
  have hset : ∀ (L : Array Bool) j m, j ≠ m → (L.setIfInBounds j true).getD m true = L.getD m true := fun L j m h => getD_set_ne true h
  intro f
  induction f with
  | zero =>
    intro L a w _ _ hr hy hT H
    refine ⟨fun h => (by rw [h] at hr; cases hr), fun j hj => ?_⟩
    by_cases hji : j = i
    · subst hji
      exact hy.wpOp hi hT ⟨fun _ => hT, H⟩
    · have := ready_mono hj hji
      rw [H.1] at this
      cases this
  | succ f ih =>
    intro L a w hc hfree hr hy hT H
    refine ⟨fun h => (by rw [h] at hr; cases hr), fun j hj => ?_⟩
    by_cases hji : j = i
    · subst hji
      exact hy.wpOp hi hT ⟨fun _ => hT, H⟩
    · obtain ⟨hjun, oj, hoj, _⟩ := mem_ready.1 hj
      have hjc := hnc L j hc hr hj
      have hic := hnc L i hc hr hr
      have h2 := wpOp_putIf hoj (hfree j oj hoj hji hjun (hgen L j i (mem_ready.1 hr).1 hj oj hoj)) (fun cs b => hsel i oi cs b hi) (fun cs b => hsel j oj cs b hoj) hQ hy (H.2 j (ready_mono hj hji))
      have hc1 : ∀ m ∈ ch, (L.setIfInBounds j true).getD m true = false := fun m hm => (hset L j m (fun e => hjc (e ▸ hm))).trans (hc m hm)
      refine wpOp_mono (fun a' w' h3 => ?_) h2
      have hT' : T w' := h3.2.1 (by rw [hset _ j c (fun e => hjc (e ▸ hcc)), hset _ i c (fun e => hic (e ▸ hcc))]; exact hc c hcc)
      refine ⟨fun _ => hT', ih (L.setIfInBounds j true) a' w' hc1 (fun k ok hk hki hun hno => ?_) (ready_mono hr (Ne.symm hji)) h3.1 hT' ?_⟩
      · refine hfree k ok hk hki ?_ hno
        by_cases hjk : j = k
        · subst hjk
          exact hjun
        · rw [getD_set_ne true hjk] at hun
          exact hun
      · rw [Array.setIfInBounds_comm _ _ hji]
        exact h3.2.2
theorem takeM (ch : List Nat) {i : Nat} {oi : Oper} {v : Value} {f : Nat} {L : Array Bool} {a : Act} {w : World} (hi : ops[i]? = some oi) (hs : Region.noSelect ops = true) (hf : Region.free md ops L i = true) (hr : (Region.ready md ops L).contains i = true)
    (hw : ch.all (fun m => (i :: ch).any (fun m' => waits md ops m m')) = true) (hcc : ch.contains c = true) (hc : ch.all (fun m => !(L.getD m true)) = true) (hQ : ∀ ch a w, Q (.panic ch) (a.put oi.dst v) w → Q (.panic ch) a w) (hT : T w) (hy : YieldsIf P ops T oi v a)
    (h : anyL P md ops Q c T f (L.setIfInBounds i true) (a.put oi.dst v) w) : anyL P md ops Q c T (f + 1) L a w :=
  takeM_all ch hi (Region.noSelect_spec hs) hQ (by simpa using hcc) (fun m hm => by
    obtain ⟨m', h1, h2⟩ := List.any_eq_true.1 (List.all_eq_true.1 hw m hm)
    exact ⟨m', by simpa using h1, h2⟩) f L a w (fun m hm => by
    have h1 := List.all_eq_true.1 hc m hm
    rw [Bool.not_eq_true'] at h1
    exact h1) (Region.free_spec hi hf) (by simpa using hr) hy hT h
end
end Go.Proofs.YtdbmaobjikjifaaGreatDoorR

end
