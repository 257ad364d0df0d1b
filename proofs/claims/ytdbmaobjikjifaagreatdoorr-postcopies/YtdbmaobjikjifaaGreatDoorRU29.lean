/- Package post: a state that shares no list with another one: the walk. -/
import Derived.Test.YtdbmaobjikjifaaGreatDoorRU26
import Derived.Test.YtdbmaobjikjifaaGreatDoorRU28
import Derived.Deep.Cut
import Derived.Laws.Rows
set_option linter.unusedVariables false
set_option linter.unusedSimpArgs false
namespace Go.Proofs.YtdbmaobjikjifaaGreatDoorR
open Go.RowKit
/-- Boxes of one's own. -/
structure OB (wr : World) (bs : List Bx) (vb : Value) (gb : Option Nat) (lb : List BL) : Prop where
  row : Rw wr 5 vb lb.length (lb.flatMap blC) gb
  boxes : lb.map BL.b = bs
  mine : ∀ x ∈ lb, Rw wr 4 x.v x.b.msgs.length (x.b.msgs.flatMap msC) x.G
  sep : Sep (gb :: lb.map BL.G)
theorem OB.keep {wr w1 : World} {bs : List Bx} {vb : Value} {gb : Option Nat} {lb : List BL} (h : OB wr bs vb gb lb) {S : Nat → Prop} (hm : Mvs S wr w1) (hS : ∀ j, (gb = some j ∨ some j ∈ lb.map BL.G) → ¬ S j) : OB w1 bs vb gb lb :=
  ⟨h.row.keep hm (fun g e => hS g (.inl e)), h.boxes, fun x hx => (h.mine x hx).keep hm (fun g e => hS g (.inr (List.mem_map.2 ⟨x, hx, e⟩))), h.sep⟩
theorem CB.done {w wr : World} {M : Nat} {bs : List Bx} {vb : Value} {gb : Option Nat} {lb : List BL} (h : CB w M wr bs vb gb lb.length lb) : OB wr bs vb gb lb :=
  ⟨h.row, h.boxes, fun x hx => by obtain ⟨i, hi, rfl⟩ := List.mem_iff_getElem.1 hx; exact h.mine i hi hi, List.pairwise_cons.2 ⟨fun b hb g e e' => by
    subst e'
    obtain ⟨x, hx, e2⟩ := List.mem_map.1 hb
    exact (h.own x hx g e2).2 e, h.sep⟩⟩
theorem CB.lt {w wr : World} {M : Nat} {bs : List Bx} {vb : Value} {gb : Option Nat} {lb : List BL} (h : CB w M wr bs vb gb lb.length lb) : ∀ j, (gb = some j ∨ some j ∈ lb.map BL.G) → M ≤ j ∧ j < wr.heap.size := by
  rintro j (e | e)
  · exact ⟨h.gbB j e, h.row.lt j e⟩
  · obtain ⟨x, hx, e2⟩ := List.mem_map.1 e
    obtain ⟨i, hi, rfl⟩ := List.mem_iff_getElem.1 hx
    exact ⟨(h.own _ hx j e2).1, (h.mine i hi hi).lt j e2⟩
theorem CQ.lt {w wr : World} {M : Nat} {bs : List It} {vb : Value} {gb : Option Nat} {lb : List QL} (h : CQ w M wr bs vb gb lb.length lb) : ∀ j, (gb = some j ∨ some j ∈ lb.map QL.G) → M ≤ j ∧ j < wr.heap.size := by
  rintro j (e | e)
  · exact ⟨h.gbB j e, h.row.lt j e⟩
  · obtain ⟨x, hx, e2⟩ := List.mem_map.1 e
    obtain ⟨i, hi, rfl⟩ := List.mem_iff_getElem.1 hx
    exact ⟨(h.own _ hx j e2).1, (h.mine i hi hi).lt j e2⟩
theorem sep_none {l : List (Option Nat)} (h : ∀ b ∈ l, b = none) : Sep l := by
  unfold Sep
  rw [List.pairwise_iff_getElem]
  intro i j hi hj hij g e e'
  have := h _ (List.getElem_mem hi)
  rw [this] at e
  cases e
/-- A state of one's own: its lists, in blocks from M on. -/
structure OS (w' : World) (M : Nat) (s : Stt) (vb vs vq : Value) (gb gs gq : Option Nat) (lb : List BL) (lq : List QL) : Prop where
  rb : Rw w' 5 vb lb.length (lb.flatMap blC) gb
  rs : Rw w' 2 vs s.subs.length (s.subs.flatMap sbC) gs
  rq : Rw w' 7 vq lq.length (lq.flatMap qlC) gq
  boxes : lb.map BL.b = s.boxes
  queue : lq.map QL.q = s.queue
  rm : ∀ x ∈ lb, Rw w' 4 x.v x.b.msgs.length (x.b.msgs.flatMap msC) x.G
  rf : ∀ x ∈ lq, Rw w' 1 x.v x.q.fr.length (x.q.fr.flatMap inC) x.G
  own : ∀ g, some g ∈ gb :: gs :: gq :: (lb.map BL.G ++ lq.map QL.G) → M ≤ g ∧ g < w'.heap.size
  sep : Sep (gb :: gs :: gq :: (lb.map BL.G ++ lq.map QL.G))
theorem OS.keep {w' w1 : World} {M : Nat} {s : Stt} {vb vs vq : Value} {gb gs gq : Option Nat} {lb : List BL} {lq : List QL} {S : Nat → Prop} (h : OS w' M s vb vs vq gb gs gq lb lq) (hm : Mvs S w' w1) (hS : ∀ g, M ≤ g → ¬ S g) : OS w1 M s vb vs vq gb gs gq lb lq := by
  have m0 : ∀ x ∈ lb, ∀ g, x.G = some g → M ≤ g := fun x hx g e => (h.own g (by simp only [List.mem_cons, List.mem_append]; exact .inr (.inr (.inr (.inl (List.mem_map.2 ⟨x, hx, e⟩)))))).1
  have m1 : ∀ x ∈ lq, ∀ g, x.G = some g → M ≤ g := fun x hx g e => (h.own g (by simp only [List.mem_cons, List.mem_append]; exact .inr (.inr (.inr (.inr (List.mem_map.2 ⟨x, hx, e⟩)))))).1
  exact ⟨h.rb.keep hm (fun g e => hS g (h.own g (by simp [e])).1), h.rs.keep hm (fun g e => hS g (h.own g (by simp [e])).1), h.rq.keep hm (fun g e => hS g (h.own g (by simp [e])).1), h.boxes, h.queue, fun x hx => (h.rm x hx).keep hm (fun g e => hS g (m0 x hx g e)), fun x hx => (h.rf x hx).keep hm (fun g e => hS g (m1 x hx g e)), fun g hg => ⟨(h.own g hg).1, Nat.lt_of_lt_of_le (h.own g hg).2 hm.size⟩, h.sep⟩
theorem os_make {w wr : World} {M N1 N2 : Nat} {s : Stt} {vb vs vq : Value} {gb gs gq : Option Nat} {lb : List BL} {lq : List QL} (hO : OB wr s.boxes vb gb lb) (hOl : ∀ j, (gb = some j ∨ some j ∈ lb.map BL.G) → M ≤ j ∧ j < N1) (hR : Rw wr 2 vs s.subs.length (s.subs.flatMap sbC) gs) (hRl : ∀ j, gs = some j → N1 ≤ j ∧ j < N2) (hC : CQ w N2 wr s.queue vq gq lq.length lq) (h1 : M ≤ N1) (h2 : N1 ≤ N2) (h3 : N2 ≤ wr.heap.size) : OS wr M s vb vs vq gb gs gq lb lq := by
  have hql := hC.lt
  refine ⟨hO.row, hR, hC.row, hO.boxes, hC.boxes, hO.mine, fun x hx => by obtain ⟨i, hi, rfl⟩ := List.mem_iff_getElem.1 hx; exact hC.mine i hi hi, fun g hg => ?_, ?_⟩
  · simp only [List.mem_cons, List.mem_append] at hg
    rcases hg with e | e | e | e | e
    · have := hOl g (.inl e.symm); omega
    · have := hRl g e.symm; omega
    · have := hql g (.inl e.symm); omega
    · have := hOl g (.inr e); omega
    · have := hql g (.inr e); omega
  · have s1 := hO.sep
    unfold Sep at s1 ⊢
    simp only [List.pairwise_cons, List.pairwise_append] at s1 ⊢
    have hm : ∀ b : Option Nat, b ∈ gs :: gq :: (lb.map BL.G ++ lq.map QL.G) → b = gs ∨ b = gq ∨ b ∈ lb.map BL.G ∨ b ∈ lq.map QL.G := fun b hb => by simpa using hb
    refine ⟨fun b hb g e e' => ?_, fun b hb g e e' => ?_, fun b hb g e e' => ?_, s1.2, hC.sep, fun a ha b hb g e e' => ?_⟩
    · subst e'
      rcases hm _ hb with e2 | e2 | e2 | e2
      · have := hOl g (.inl e); have := hRl g e2.symm; omega
      · have := hOl g (.inl e); have := hql g (.inl e2.symm); omega
      · exact s1.1 _ e2 g e rfl
      · have := hOl g (.inl e); have := hql g (.inr e2); omega
    · subst e'
      simp only [List.mem_cons, List.mem_append] at hb
      rcases hb with e2 | e2 | e2
      · have := hRl g e; have := hql g (.inl e2.symm); omega
      · have := hRl g e; have := hOl g (.inr e2); omega
      · have := hRl g e; have := hql g (.inr e2); omega
    · subst e'
      rcases List.mem_append.1 hb with e2 | e2
      · have := hql g (.inl e); have := hOl g (.inr e2); omega
      · obtain ⟨x, hx, e3⟩ := List.mem_map.1 e2
        exact (hC.own x hx g e3).2 e
    · subst e
      subst e'
      have := hOl g (.inr ha)
      have := hql g (.inr hb)
      omega
set_option maxRecDepth 20000 in
set_option maxHeartbeats 16000000 in
theorem pcopied_any {w : World} {v : Value} {s : Stt} (hS : StR w v s) (hd : BdS s) :
    Calls Tryz.prog 13 #[v] w fun e w' => ∃ vb vs vq gb gs gq lb lq, e = .returned (.agg #[vb, vs, vq, .int .i64 s.nextValid, .int .i64 s.nextItem]) ∧ Below w.heap.size w w' ∧ OS w' (w.heap.size + 2) s vb vs vq gb gs gq lb lq := by
  obtain ⟨bv, sv, qv, rfl, hb, hs, hq⟩ := hS
  obtain ⟨Ab, cb, rfl⟩ := hb.form
  obtain ⟨As, cs, rfl⟩ := hs.form
  obtain ⟨Aq, cq, rfl⟩ := hq.form
  obtain ⟨lb0, hlb1, hlb2, hlb3⟩ := rdb_list hb
  obtain ⟨lq0, hlq1, hlq2, hlq3⟩ := rdq_list hq
  have HFin : Hid (∀ (wr : World) (M N1 N2 : Nat) (vb vs vq : Value) (gb gs gq : Option Nat) (lb : List BL) (lq : List QL), OB wr s.boxes vb gb lb → (∀ j, (gb = some j ∨ some j ∈ lb.map BL.G) → M ≤ j ∧ j < N1) → Rw wr 2 vs s.subs.length (s.subs.flatMap sbC) gs → (∀ j, gs = some j → N1 ≤ j ∧ j < N2) → CQ w N2 wr s.queue vq gq lq.length lq → M ≤ N1 → N1 ≤ N2 → N2 ≤ wr.heap.size → OS wr M s vb vs vq gb gs gq lb lq) := fun wr M N1 N2 vb vs vq gb gs gq lb lq h1 h2 h3 h4 h5 h6 h7 h8 => os_make h1 h2 h3 h4 h5 h6 h7 h8
  have HBD := hide (fun (b : Bx) (h : b ∈ s.boxes) => (hd.bx b h).msgs)
  have HBDq := hide hd.qu
  have hnb : lb0.length = s.boxes.length := by rw [← hlb1, List.length_map]
  have hnq : lq0.length = s.queue.length := by rw [← hlq1, List.length_map]
  have hd1 := hd.boxes
  have hd2 := hd.queue
  have hd3 := hd.subs
  obtain ⟨bs, hbs⟩ : ∃ bs, Hid (s.boxes = bs) := ⟨_, hide rfl⟩
  obtain ⟨ss, hss⟩ : ∃ ss, Hid (s.subs = ss) := ⟨_, hide rfl⟩
  obtain ⟨qs, hqs⟩ : ∃ qs, Hid (s.queue = qs) := ⟨_, hide rfl⟩
  rw [hbs.out] at hb hlb1 hnb hd1
  rw [hss.out] at hs hd3
  rw [hqs.out] at hq hlq1 hnq hd2
  rw [hbs.out, hqs.out, hss.out] at HFin
  rw [hbs.out] at HBD
  rw [hqs.out] at HBDq
  rw [hbs.out, hss.out, hqs.out]
  clear hd
  generalize s.nextValid = nv at *
  generalize s.nextItem = ni at *
  have HSb := hide hs
  obtain ⟨nb, hnb0⟩ : ∃ nb, Hid (bs.length = nb) := ⟨_, hide rfl⟩
  obtain ⟨ns, hns0⟩ : ∃ ns, Hid (ss.length = ns) := ⟨_, hide rfl⟩
  obtain ⟨nq, hnq0⟩ : ∃ nq, Hid (qs.length = nq) := ⟨_, hide rfl⟩
  rw [hnb0.out] at hnb hd1
  rw [hns0.out] at hd3
  rw [hnq0.out] at hnq hd2
  rw [hnb0.out, hns0.out, hnq0.out]
  have hB0 : Hid (Below w.heap.size w ((w.alloc (.cells #[.slice Ab nb cb, .slice As ns cs, .slice Aq nq cq, .int .i64 nv, .int .i64 ni] 28)).alloc (.cells #[.slice none 0 0, .slice none 0 0, .slice none 0 0, .int .i64 0, .int .i64 0] 28))) := ((Below.refl w.heap.size w).alloc (Nat.le_refl _) _).alloc (by simp) _
  have hK0 : Hid (Blk ((w.alloc (.cells #[.slice Ab nb cb, .slice As ns cs, .slice Aq nq cq, .int .i64 nv, .int .i64 ni] 28)).alloc (.cells #[.slice none 0 0, .slice none 0 0, .slice none 0 0, .int .i64 0, .int .i64 0] 28)) w.heap.size #[.slice Ab nb cb, .slice As ns cs, .slice Aq nq cq, .int .i64 nv, .int .i64 ni] 28) := (Blk.new w _ _).alloc _
  have hZ0 : Hid (Blk ((w.alloc (.cells #[.slice Ab nb cb, .slice As ns cs, .slice Aq nq cq, .int .i64 nv, .int .i64 ni] 28)).alloc (.cells #[.slice none 0 0, .slice none 0 0, .slice none 0 0, .int .i64 0, .int .i64 0] 28)) (w.heap.size + 1) #[.slice none 0 0, .slice none 0 0, .slice none 0 0, .int .i64 0, .int .i64 0] 28) := Blk.new1 w _ _ _
  obtain ⟨W0, hW0⟩ : ∃ W0, Hid ((w.alloc (.cells #[.slice Ab nb cb, .slice As ns cs, .slice Aq nq cq, .int .i64 nv, .int .i64 ni] 28)).alloc (.cells #[.slice none 0 0, .slice none 0 0, .slice none 0 0, .int .i64 0, .int .i64 0] 28) = W0) := ⟨_, hide rfl⟩
  have hs0 : Hid (W0.heap.size = w.heap.size + 2) := by show _ = _; rw [← hW0.out]; simp
  rw [hW0.out] at hB0 hK0 hZ0
  have HC1 := hide (pclBox_any (w := W0) (A := Ab) (c := cb) (xs := lb0) (by rw [hnb]; exact hd1) (fun i hi => by
    obtain ⟨g, o, e, hg, hc⟩ := hlb3 i hi
    exact ⟨g, o, e, Nat.lt_of_lt_of_le hg hB0.out.size, fun j hj => (hB0.out.cell (p := ⟨g, _, none⟩) hg).trans (hc j hj)⟩) (fun x hx => blC_one x (by obtain ⟨A, c, e⟩ := (hlb2 x hx).2.form; exact ⟨_, _, _, e⟩)))
  rw [hnb] at HC1
  have HC2 : Hid (∀ W, Below w.heap.size w W → Calls Tryz.prog 23 #[.slice As ns cs] W fun e w' => ∃ v' G, e = .returned v' ∧ Below W.heap.size W w' ∧ Rw w' 2 v' ns (ss.flatMap sbC) G ∧ ∀ g, G = some g → W.heap.size ≤ g) := fun W hW => by
    have h1 := HSb.out.below stb_sb hW
    have h2 := pclSub_rd h1 (by rw [hns0.out]; exact hd3)
    rwa [hns0.out] at h2
  have HC3 : Hid (∀ W, Below w.heap.size w W → Calls Tryz.prog 24 #[.slice Aq nq cq] W fun e w' => ∃ v' G, e = .returned v' ∧ Below W.heap.size W w' ∧ Rw w' 7 v' nq (lq0.flatMap qlC) G ∧ ∀ g, G = some g → W.heap.size ≤ g) := fun W hW => by
    have h2 := pclItem_any (w := W) (A := Aq) (c := cq) (xs := lq0) (by rw [hnq]; exact hd2) (fun i hi => by
      obtain ⟨g, o, e, hg, hc⟩ := hlq3 i hi
      exact ⟨g, o, e, Nat.lt_of_lt_of_le hg hW.size, fun j hj => (hW.cell (p := ⟨g, _, none⟩) hg).trans (hc j hj)⟩) (fun x hx => qlC_one x (by obtain ⟨A, c, e⟩ := (hlq2 x hx).2.form; exact ⟨_, _, _, e⟩))
    rwa [hnq] at h2
  have HB0' : Hid (∀ w1 v' G', Rw w1 5 v' nb (lb0.flatMap blC) G' → (∀ g, G' = some g → w.heap.size + 2 ≤ g) → CB w (w.heap.size + 2) w1 bs v' G' 0 lb0) := fun w1 v' G' h1 h2 => ⟨by rw [hnb]; exact h1, h2, hlb1, fun i hi h => by omega, fun i hi _ => hlb2 _ (List.getElem_mem hi), fun x hx g e => (by rw [(hlb2 x hx).1] at e; cases e), sep_none (fun b hb => by obtain ⟨x, hx, rfl⟩ := List.mem_map.1 hb; exact (hlb2 x hx).1)⟩
  have HQ0' : Hid (∀ w1 v' G' N2, Rw w1 7 v' nq (lq0.flatMap qlC) G' → (∀ g, G' = some g → N2 ≤ g) → CQ w N2 w1 qs v' G' 0 lq0) := fun w1 v' G' N2 h1 h2 => ⟨by rw [hnq]; exact h1, h2, hlq1, fun i hi h => by omega, fun i hi _ => hlq2 _ (List.getElem_mem hi), fun x hx g e => (by rw [(hlq2 x hx).1] at e; cases e), sep_none (fun b hb => by obtain ⟨x, hx, rfl⟩ := List.mem_map.1 hb; exact (hlq2 x hx).1)⟩
  have HLb0 := hide hnb
  have HLq0 := hide hnq
  have HMw : Hid (w.heap.size + 2 ≤ w.heap.size + 2) := Nat.le_refl _
  clear hlb1 hlb2 hlb3 hlq1 hlq2 hlq3 hb hs hq hnb hnq HSb hss hbs hqs
  rw [← hW0.out] at HC1
  go_enter Tryz.func13, Tryz.ntmps13
  go_wp2_with (go_at_call 21; (refine HC1.out.mono ?_; rintro e w1 ⟨v1, gb, rfl, hb1, hr1, hg1⟩; rw [hW0.out] at hb1 hg1; obtain ⟨Bb, db, hv1⟩ := hr1.form; subst hv1; have q0 := (hK0.out.below hb1 hK0.out.lt).cell 0; have z0 := (hK0.out.below hb1 hK0.out.lt).frozen 0))
  have hBW1 : Hid (Below w.heap.size w (w1.setCell ⟨w.heap.size, 0, none⟩ (.slice Bb nb db))) := (hB0.out.trans (hb1.mono hB0.out.size)).setCell (p := ⟨w.heap.size, 0, none⟩) (Nat.le_refl _) _
  have hKW1 : Hid (Blk (w1.setCell ⟨w.heap.size, 0, none⟩ (.slice Bb nb db)) w.heap.size #[.slice Bb nb db, .slice As ns cs, .slice Aq nq cq, .int .i64 nv, .int .i64 ni] 28) := (hK0.out.below hb1 hK0.out.lt).set 0 _
  have hZW1 : Hid (Blk (w1.setCell ⟨w.heap.size, 0, none⟩ (.slice Bb nb db)) (w.heap.size + 1) #[.slice none 0 0, .slice none 0 0, .slice none 0 0, .int .i64 0, .int .i64 0] 28) := (hZ0.out.below hb1 hZ0.out.lt).set_other _ _ (by dsimp only; omega)
  have hCW1 : Hid (CB w (w.heap.size + 2) (w1.setCell ⟨w.heap.size, 0, none⟩ (.slice Bb nb db)) bs (.slice Bb nb db) gb 0 lb0) := HB0'.out _ _ _ (hr1.keep (S := fun j => j = w.heap.size) ((Mvs.refl _ _).setCell _ _ (fun _ => rfl)) (fun g e => by have := hg1 g e; have := hs0.out; omega)) (fun g e => by have := hg1 g e; have := hs0.out; omega)
  have hMW1 : Hid (w.heap.size + 2 ≤ (w1.setCell ⟨w.heap.size, 0, none⟩ (.slice Bb nb db)).heap.size) := hZW1.out.lt
  clear hr1 hg1 hb1 HB0' HC1 hK0 hZ0 hB0 hs0 hW0
  go_wp2
  generalize w1.setCell ⟨w.heap.size, 0, none⟩ (.slice Bb nb db) = W1 at *
  have q1 := hKW1.out.cell 0
  go_wp2
  go_loopw [3, 4, 14] (fun _ _ u wr => ∃ (k : Nat) (lb : List BL), u = .int .i64 k ∧ k ≤ nb ∧ lb.length = nb ∧ Hid (Below w.heap.size w wr) ∧ Hid (w.heap.size + 2 ≤ wr.heap.size) ∧ Hid (Blk wr w.heap.size #[.slice Bb nb db, .slice As ns cs, .slice Aq nq cq, .int .i64 nv, .int .i64 ni] 28) ∧ Hid (Blk wr (w.heap.size + 1) #[.slice none 0 0, .slice none 0 0, .slice none 0 0, .int .i64 0, .int .i64 0] 28) ∧ Hid (CB w (w.heap.size + 2) wr bs (.slice Bb nb db) gb k lb)) (fun _ _ u _ => nb - (intOf u).toNat)
  case atStart => exact ⟨0, lb0, rfl, Nat.zero_le _, HLb0.out, hBW1.out, hMW1.out, hKW1.out, hZW1.out, hCW1.out⟩
  case round =>
    obtain ⟨k, lb, rfl, hk, hln, HB, HMr, HK, HZ, HC⟩ := hrel
    have hlN := hide hln
    clear hln
    by_cases hlt : k < nb
    · have hlt' : (k : Int) < nb := by omega
      have hkl : k < lb.length := by rw [hlN.out]; exact hlt
      obtain ⟨A2, c2, e2, _, hat⟩ := rw_at blC_len HC.out.row
      obtain ⟨g, o, rfl, hgg, hgl, hcap, hc⟩ := hat k hkl
      rw [hlN.out] at e2
      cases e2
      have p0 : wr.cell? ⟨g, o + k * 5, none⟩ = (blC lb[k])[0]? := (hc 0 (by omega)).1
      have p1 : wr.cell? ⟨g, o + k * 5 + 1, none⟩ = (blC lb[k])[1]? := (hc 1 (by omega)).1
      have p2 : wr.cell? ⟨g, o + k * 5 + 2, none⟩ = (blC lb[k])[2]? := (hc 2 (by omega)).1
      have p3 : wr.cell? ⟨g, o + k * 5 + 3, none⟩ = (blC lb[k])[3]? := (hc 3 (by omega)).1
      have p4 : wr.cell? ⟨g, o + k * 5 + 4, none⟩ = (blC lb[k])[4]? := (hc 4 (by omega)).1
      have hwr : wr.cell? ⟨g, o + k * 5 + 4, none⟩ = some lb[k].v := (hc 4 (by omega)).1
      have hfz : wr.frozen? ⟨g, o + k * 5 + 4, none⟩ = false := (hc 4 (by omega)).2
      have hold := (HC.out.old k hkl (Nat.le_refl _)).2
      have HB0 : Hid ((w.heap.size + 2) ≤ wr.heap.size) := HMr
      have HGg : Hid ((w.heap.size + 2) ≤ g) := HC.out.gbB g hgg
      have HMl : Hid (∀ W, Below wr.heap.size wr W → RdE 4 MsgAt W lb[k].v lb[k].b.msgs) := fun W hW => (hold.below stb_msg HB.out).below stb_msg hW
      have hbdk : lb[k].b.msgs.length ≤ 1000000 := HBD.out _ (by rw [← HC.out.boxes]; exact List.mem_map.2 ⟨_, List.getElem_mem hkl, rfl⟩)
      have HSt : Hid (∀ w1 v' G', Below wr.heap.size wr w1 → Rw w1 4 v' lb[k].b.msgs.length (lb[k].b.msgs.flatMap msC) G' → (∀ g, G' = some g → wr.heap.size ≤ g) → CB w (w.heap.size + 2) (w1.setCell ⟨g, o + k * 5 + 4, none⟩ v') bs (.slice (some ⟨g, o, none⟩) nb db) gb (k + 1) (lb.set k ⟨lb[k].b, v', G'⟩)) := fun w1 v' G' h1 h2 h3 => by
        have hrow := HC.out
        rw [hgg] at hrow ⊢
        rw [← hlN.out] at hrow ⊢
        exact hrow.step hkl h1 h2 h3 HB0.out
      have HLs : Hid (∀ y, (lb.set k y).length = nb) := fun y => by rw [List.length_set]; exact hlN.out
      clear hat hc hold
      obtain ⟨x, hx⟩ : ∃ x, lb[k] = x := ⟨_, rfl⟩
      rw [hx] at p0 p1 p2 p3 p4 hwr HMl HSt hbdk
      obtain ⟨Am, cm, hxv⟩ := (HMl.out _ (Below.refl _ _)).form
      obtain ⟨lm, hlm⟩ : ∃ lm, x.b.msgs.length = lm := ⟨_, rfl⟩
      have HCl : Hid (∀ W, Below wr.heap.size wr W → Calls Tryz.prog 22 #[.slice Am lm cm] W fun e w' => ∃ v' G, e = .returned v' ∧ Below W.heap.size W w' ∧ Rw w' 4 v' lm (x.b.msgs.flatMap msC) G ∧ ∀ g, G = some g → W.heap.size ≤ g) := fun W hW => by
        have h1 := HMl.out W hW
        rw [hxv, hlm] at h1
        have h2 := pclMsg_rd h1 hbdk
        rwa [hlm] at h2
      rw [hlm] at hxv HSt
      simp only [blC, hxv, List.getElem?_cons_zero, List.getElem?_cons_succ] at p0 p1 p2 p3 p4 hwr
      clear HMl hxv hbdk hx hlm hwr
      have hwr := p4
      obtain ⟨W9, hW9⟩ : ∃ W9, Hid (wr.alloc (.cells #[.int .i64 x.b.user, .string ⟨x.b.name.toArray⟩, .int .i64 x.b.valid, .int .i64 x.b.next, .slice Am lm cm] 45) = W9) := ⟨_, hide rfl⟩
      have hB9 : Hid (Below wr.heap.size wr W9) := by rw [← hW9.out]; exact (Below.refl _ _).alloc (Nat.le_refl _) _
      have HK9 : Hid (Blk W9 w.heap.size #[.slice (some ⟨g, o, none⟩) nb db, .slice As ns cs, .slice Aq nq cq, .int .i64 nv, .int .i64 ni] 28) := HK.out.below hB9.out HK.out.lt
      have HN9 : Hid (Blk W9 wr.heap.size #[.int .i64 x.b.user, .string ⟨x.b.name.toArray⟩, .int .i64 x.b.valid, .int .i64 x.b.next, .slice Am lm cm] 45) := by rw [← hW9.out]; exact Blk.new _ _ _
      have hs9 : Hid (W9.heap.size = wr.heap.size + 1) := by show _ = _; rw [← hW9.out]; simp
      replace HCl : Hid (∀ W, Below W9.heap.size W9 W → Calls Tryz.prog 22 #[.slice Am lm cm] W fun e w' => ∃ v' G, e = .returned v' ∧ Below W.heap.size W w' ∧ Rw w' 4 v' lm (x.b.msgs.flatMap msC) G ∧ ∀ g, G = some g → W.heap.size ≤ g) := fun W hW => HCl.out W (hB9.out.trans (hW.mono hB9.out.size))
      go_wp2
      rw [hW9.out]
      refine regionL 8 (fun W => W.cell? ⟨w.heap.size, 0, none⟩ = some (.slice (some ⟨g, o, none⟩) nb db) ∧ W.cell? ⟨wr.heap.size, 4, none⟩ = some (.slice Am lm cm)) (by kernel_rfl) ?_
      have HT0 : W9.drew.cell? ⟨w.heap.size, 0, none⟩ = some (.slice (some ⟨g, o, none⟩) nb db) ∧ W9.drew.cell? ⟨wr.heap.size, 4, none⟩ = some (.slice Am lm cm) := ⟨HK9.out.cell 0, HN9.out.cell 4⟩
      refine takeW (i := 0) (v := .pointer (some ⟨w.heap.size, 0, none⟩)) rfl (by kernel_rfl) (by kernel_rfl) (by kernel_rfl) rfl (fun _ _ _ h => h) (fun _ => HT0) (Or.inl ⟨by rfl, fun W _ => by go_simp⟩) ?_
      try simp only [Act.put, List.getElem_toArray, List.getElem_cons_succ, List.getElem_cons_zero, List.setIfInBounds_toArray, List.set_cons_zero, List.set_cons_succ]
      refine takeL (i := 1) (v := .slice (some ⟨g, o, none⟩) nb db) rfl (by kernel_rfl) (by kernel_rfl) (by kernel_rfl) (by kernel_rfl) (by kernel_rfl) (fun _ _ _ h => h) HT0 (Or.inl ⟨by rfl, fun W hW => by obtain ⟨t0, t1⟩ := hW; go_simp⟩) ?_
      try simp only [Act.put, List.getElem_toArray, List.getElem_cons_succ, List.getElem_cons_zero, List.setIfInBounds_toArray, List.set_cons_zero, List.set_cons_succ]
      refine takeW (i := 2) (v := .int .i64 (k : Int)) rfl (by kernel_rfl) (by kernel_rfl) (by kernel_rfl) rfl (fun _ _ _ h => h) (fun _ => HT0) (Or.inl ⟨by rfl, fun W _ => by go_simp⟩) ?_
      try simp only [Act.put, List.getElem_toArray, List.getElem_cons_succ, List.getElem_cons_zero, List.setIfInBounds_toArray, List.set_cons_zero, List.set_cons_succ]
      refine takeW (i := 3) (v := .pointer (some ⟨wr.heap.size, 4, none⟩)) rfl (by kernel_rfl) (by kernel_rfl) (by kernel_rfl) rfl (fun _ _ _ h => h) (fun _ => HT0) (Or.inl ⟨by rfl, fun W _ => by go_simp⟩) ?_
      try simp only [Act.put, List.getElem_toArray, List.getElem_cons_succ, List.getElem_cons_zero, List.setIfInBounds_toArray, List.set_cons_zero, List.set_cons_succ]
      refine takeL (i := 4) (v := .slice Am lm cm) rfl (by kernel_rfl) (by kernel_rfl) (by kernel_rfl) (by kernel_rfl) (by kernel_rfl) (fun _ _ _ h => h) HT0 (Or.inl ⟨by rfl, fun W hW => by obtain ⟨t0, t1⟩ := hW; go_simp⟩) ?_
      try simp only [Act.put, List.getElem_toArray, List.getElem_cons_succ, List.getElem_cons_zero, List.setIfInBounds_toArray, List.set_cons_zero, List.set_cons_succ]
      refine readyL (rs := [5]) (by kernel_rfl) (by simp) ?_
      refine AllL.cons rfl (fun K hK => ?_) AllL.nil
      try simp only [List.getElem_toArray, List.getElem_cons_succ, List.getElem_cons_zero]
      go_simp
      refine (HCl.out W9.drew (Below.refl _ _).drew).mono ?_
      rintro e w2 ⟨v2, G2, rfl, hb2, hr2, hg2⟩
      have hbD : Below W9.heap.size W9 w2 := ⟨hb2.os, hb2.tape, hb2.output, hb2.size, hb2.block⟩
      have HT1 : w2.cell? ⟨w.heap.size, 0, none⟩ = some (.slice (some ⟨g, o, none⟩) nb db) ∧ w2.cell? ⟨wr.heap.size, 4, none⟩ = some (.slice Am lm cm) := ⟨(HK9.out.below hbD HK9.out.lt).cell 0, (HN9.out.below hbD HN9.out.lt).cell 4⟩
      refine hK.out _ _ (fun _ => HT1) (fun _ => ?_)
      clear hK K
      try simp only [Act.put, List.getElem_toArray, List.getElem_cons_succ, List.getElem_cons_zero, List.setIfInBounds_toArray, List.set_cons_zero, List.set_cons_succ]
      clear HT0
      have HT0 := HT1
      clear HT1
      refine takeW (i := 6) (v := .pointer (some ⟨g, o + k * 5, none⟩)) rfl (by kernel_rfl) (by kernel_rfl) (by kernel_rfl) rfl (fun _ _ _ h => h) (fun _ => HT0) (Or.inl ⟨by rfl, fun W _ => by go_simp⟩) ?_
      try simp only [Act.put, List.getElem_toArray, List.getElem_cons_succ, List.getElem_cons_zero, List.setIfInBounds_toArray, List.set_cons_zero, List.set_cons_succ]
      refine takeW (i := 7) (v := .pointer (some ⟨g, o + k * 5 + 4, none⟩)) rfl (by kernel_rfl) (by kernel_rfl) (by kernel_rfl) rfl (fun _ _ _ h => h) (fun _ => HT0) (Or.inl ⟨by rfl, fun W _ => by go_simp⟩) ?_
      try simp only [Act.put, List.getElem_toArray, List.getElem_cons_succ, List.getElem_cons_zero, List.setIfInBounds_toArray, List.set_cons_zero, List.set_cons_succ]
      have s4 : w2.cell? ⟨g, o + k * 5 + 4, none⟩ = some (.slice Am lm cm) := ((hB9.out.trans (hbD.mono hB9.out.size)).cell (p := ⟨g, _, none⟩) hgl).trans hwr
      have s5 : w2.frozen? ⟨g, o + k * 5 + 4, none⟩ = false := (World.frozen?_of_block ((hB9.out.trans (hbD.mono hB9.out.size)).block _ hgl)).trans hfz
      obtain ⟨A3, c3, hv2⟩ := hr2.form
      subst hv2
      refine readyL (rs := [8]) (by kernel_rfl) (by simp) ?_
      refine AllL.cons rfl (fun K hK => ?_) AllL.nil
      try simp only [List.getElem_toArray, List.getElem_cons_succ, List.getElem_cons_zero]
      go_simp
      refine hK.out _ _ (vac (by kernel_rfl)) (fun _ => ?_)
      clear hK K HT0
      refine doneL (by kernel_rfl) ?_ _
      have hbw : Hid (Below wr.heap.size wr w2) := hB9.out.trans (hbD.mono hB9.out.size)
      have HS2 := hide (HSt.out w2 (.slice A3 lm c3) G2 hbw.out hr2 (fun g e => by have h1 := hg2 g e; have h9 := hs9.out; have h3 : W9.drew.heap.size = W9.heap.size := rfl; omega))
      have HB2 : Hid (Below w.heap.size w (w2.setCell ⟨g, o + k * 5 + 4, none⟩ (.slice A3 lm c3))) := (HB.out.trans (hbw.out.mono HB.out.size)).setCell (p := ⟨g, _, none⟩) (by show w.heap.size ≤ g; have := HGg.out; have := HMw.out; omega) _
      have HM2 : Hid ((w.heap.size + 2) ≤ (w2.setCell ⟨g, o + k * 5 + 4, none⟩ (.slice A3 lm c3)).heap.size) := by have := HMr.out; have := hbw.out.size; show _ ≤ _; simpa [World.setCell] using Nat.le_trans HMr.out hbw.out.size
      have HK2 : Hid (Blk (w2.setCell ⟨g, o + k * 5 + 4, none⟩ (.slice A3 lm c3)) w.heap.size #[.slice (some ⟨g, o, none⟩) nb db, .slice As ns cs, .slice Aq nq cq, .int .i64 nv, .int .i64 ni] 28) := (HK.out.below hbw.out HK.out.lt).set_other _ _ (by have := HGg.out; have := HMw.out; dsimp only; omega)
      have HZ2 : Hid (Blk (w2.setCell ⟨g, o + k * 5 + 4, none⟩ (.slice A3 lm c3)) (w.heap.size + 1) #[.slice none 0 0, .slice none 0 0, .slice none 0 0, .int .i64 0, .int .i64 0] 28) := (HZ.out.below hbw.out HZ.out.lt).set_other _ _ (by have := HGg.out; have := HMw.out; dsimp only; omega)
      clear hr2 hg2 hb2 hbD hbw HSt HK HZ HC HB HK9 HN9 hB9 hs9 HCl
      go_wp2
      go_roundw
      case rel => exact ⟨k + 1, lb.set k ⟨x.b, .slice A3 lm c3, G2⟩, by go_num, by omega, HLs.out _, HB2.out, HM2.out, HK2.out, HZ2.out, HS2.out⟩
      case measure => simp [intOf]; omega
    · obtain rfl : nb = k := by omega
      have h1 : CB w (w.heap.size + 2) wr bs (.slice Bb nb db) gb lb.length lb := by rw [hlN.out]; exact HC.out
      have hO1 := hide h1.done
      have hO1l := hide h1.lt
      clear h1 HC HMr
      have q1 := HK.out.cell 1
      go_upto_region 8 with (go_at_call 23; (refine (HC2.out _ HB.out).mono ?_; rintro e w2 ⟨v2, gs, rfl, hb2, hr2, hg2⟩; obtain ⟨Bs, ds, hv2⟩ := hr2.form; subst hv2; have q4 := (HK.out.below hb2 HK.out.lt).cell 1; have z4 := (HK.out.below hb2 HK.out.lt).frozen 1))
      have hBW2 : Hid (Below w.heap.size w (w2.setCell ⟨w.heap.size, 1, none⟩ (.slice Bs ns ds))) := (HB.out.trans (hb2.mono HB.out.size)).setCell (p := ⟨w.heap.size, 1, none⟩) (Nat.le_refl _) _
      have hKW2 : Hid (Blk (w2.setCell ⟨w.heap.size, 1, none⟩ (.slice Bs ns ds)) w.heap.size #[.slice Bb nb db, .slice Bs ns ds, .slice Aq nq cq, .int .i64 nv, .int .i64 ni] 28) := (HK.out.below hb2 HK.out.lt).set 1 _
      have hZW2 : Hid (Blk (w2.setCell ⟨w.heap.size, 1, none⟩ (.slice Bs ns ds)) (w.heap.size + 1) #[.slice none 0 0, .slice none 0 0, .slice none 0 0, .int .i64 0, .int .i64 0] 28) := (HZ.out.below hb2 HZ.out.lt).set_other _ _ (by dsimp only; omega)
      have hOW2 : Hid (OB (w2.setCell ⟨w.heap.size, 1, none⟩ (.slice Bs ns ds)) bs (.slice Bb nb db) gb lb) := (hO1.out.keep (Mvs.of_below (S := fun _ => False) hb2) (fun _ _ c => c)).keep (S := fun j => j = w.heap.size) ((Mvs.refl _ _).setCell _ _ (fun _ => rfl)) (fun j hj e => by have := hO1l.out j hj; omega)
      have hRW2 : Hid (Rw (w2.setCell ⟨w.heap.size, 1, none⟩ (.slice Bs ns ds)) 2 (.slice Bs ns ds) ns (ss.flatMap sbC) gs) := hr2.keep (S := fun j => j = w.heap.size) ((Mvs.refl _ _).setCell _ _ (fun _ => rfl)) (fun g e e2 => by have := hg2 g e; have := HK.out.lt; omega)
      have hRl2 : Hid (∀ j, gs = some j → wr.heap.size ≤ j ∧ j < (w2.setCell ⟨w.heap.size, 1, none⟩ (.slice Bs ns ds)).heap.size) := fun j e => ⟨hg2 j e, hRW2.out.lt j e⟩
      have hN12 : Hid (wr.heap.size ≤ (w2.setCell ⟨w.heap.size, 1, none⟩ (.slice Bs ns ds)).heap.size) := by show _ ≤ _; simpa [World.setCell] using hb2.size
      obtain ⟨N1, hN1⟩ : ∃ N1, Hid (wr.heap.size = N1) := ⟨_, hide rfl⟩
      have hM1 : Hid (w.heap.size + 2 ≤ N1) := by show _ ≤ _; rw [← hN1.out]; exact HZ.out.lt
      rw [hN1.out] at hO1l hRl2 hN12
      clear hr2 hg2 hb2 hO1 HK HZ HB hN1 q1 q4 z4
      generalize w2.setCell ⟨w.heap.size, 1, none⟩ (.slice Bs ns ds) = W2 at *
      have q2 := hKW2.out.cell 2
      go_upto_region 9 with (go_at_call 24; (refine (HC3.out _ hBW2.out).mono ?_; rintro e w3 ⟨v3, gq, rfl, hb3, hr3, hg3⟩; obtain ⟨Bq, dq, hv3⟩ := hr3.form; subst hv3; have q4 := (hKW2.out.below hb3 hKW2.out.lt).cell 2; have z4 := (hKW2.out.below hb3 hKW2.out.lt).frozen 2))
      have hBW3 : Hid (Below w.heap.size w (w3.setCell ⟨w.heap.size, 2, none⟩ (.slice Bq nq dq))) := (hBW2.out.trans (hb3.mono hBW2.out.size)).setCell (p := ⟨w.heap.size, 2, none⟩) (Nat.le_refl _) _
      have hKW3 : Hid (Blk (w3.setCell ⟨w.heap.size, 2, none⟩ (.slice Bq nq dq)) w.heap.size #[.slice Bb nb db, .slice Bs ns ds, .slice Bq nq dq, .int .i64 nv, .int .i64 ni] 28) := (hKW2.out.below hb3 hKW2.out.lt).set 2 _
      have hZW3 : Hid (Blk (w3.setCell ⟨w.heap.size, 2, none⟩ (.slice Bq nq dq)) (w.heap.size + 1) #[.slice none 0 0, .slice none 0 0, .slice none 0 0, .int .i64 0, .int .i64 0] 28) := (hZW2.out.below hb3 hZW2.out.lt).set_other _ _ (by dsimp only; omega)
      have hOW3 : Hid (OB (w3.setCell ⟨w.heap.size, 2, none⟩ (.slice Bq nq dq)) bs (.slice Bb nb db) gb lb) := (hOW2.out.keep (Mvs.of_below (S := fun _ => False) hb3) (fun _ _ c => c)).keep (S := fun j => j = w.heap.size) ((Mvs.refl _ _).setCell _ _ (fun _ => rfl)) (fun j hj e => by have := hO1l.out j hj; omega)
      have hRW3 : Hid (Rw (w3.setCell ⟨w.heap.size, 2, none⟩ (.slice Bq nq dq)) 2 (.slice Bs ns ds) ns (ss.flatMap sbC) gs) := (hRW2.out.keep (Mvs.of_below (S := fun _ => False) hb3) (fun _ _ c => c)).keep (S := fun j => j = w.heap.size) ((Mvs.refl _ _).setCell _ _ (fun _ => rfl)) (fun g e e2 => by have := (hRl2.out g e).1; have := hM1.out; omega)
      have hCW3 : Hid (CQ w W2.heap.size (w3.setCell ⟨w.heap.size, 2, none⟩ (.slice Bq nq dq)) qs (.slice Bq nq dq) gq 0 lq0) := HQ0'.out _ _ _ _ (hr3.keep (S := fun j => j = w.heap.size) ((Mvs.refl _ _).setCell _ _ (fun _ => rfl)) (fun g e e2 => by have := hg3 g e; have := hKW2.out.lt; omega)) hg3
      have hMW3 : Hid (W2.heap.size ≤ (w3.setCell ⟨w.heap.size, 2, none⟩ (.slice Bq nq dq)).heap.size) := by show _ ≤ _; simpa [World.setCell] using hb3.size
      obtain ⟨N2, hN2⟩ : ∃ N2, Hid (W2.heap.size = N2) := ⟨_, hide rfl⟩
      rw [hN2.out] at hCW3 hMW3 hRl2 hN12
      have HOl : Hid (∀ j, (gb = some j ∨ some j ∈ lb.map BL.G) → j < N2) := fun j hj => Nat.lt_of_lt_of_le (hO1l.out j hj).2 hN12.out
      have HRl : Hid (∀ j, gs = some j → N1 ≤ j ∧ j < N2) := hRl2.out
      replace HMw : Hid (w.heap.size + 2 ≤ N2) := Nat.le_trans hM1.out hN12.out
      replace HBD := HBDq
      clear hr3 hg3 hb3 hOW2 hRW2 hRl2 hBW2 hKW2 hZW2 hN2 q2 q4 z4 HC3 HC2 HQ0' HLb0
      generalize w3.setCell ⟨w.heap.size, 2, none⟩ (.slice Bq nq dq) = W3 at *
      have q2 := hKW3.out.cell 2
      go_wp2
      go_loopw [5, 6, 39] (fun _ _ u wr => ∃ (k : Nat) (lq : List QL), u = .int .i64 k ∧ k ≤ nq ∧ lq.length = nq ∧ Hid (Below w.heap.size w wr) ∧ Hid (N2 ≤ wr.heap.size) ∧ Hid (Blk wr w.heap.size #[.slice Bb nb db, .slice Bs ns ds, .slice Bq nq dq, .int .i64 nv, .int .i64 ni] 28) ∧ Hid (Blk wr (w.heap.size + 1) #[.slice none 0 0, .slice none 0 0, .slice none 0 0, .int .i64 0, .int .i64 0] 28) ∧ Hid (CQ w N2 wr qs (.slice Bq nq dq) gq k lq) ∧ Hid (OB wr bs (.slice Bb nb db) gb lb) ∧ Hid (Rw wr 2 (.slice Bs ns ds) ns (ss.flatMap sbC) gs)) (fun _ _ u _ => nq - (intOf u).toNat)
      case atStart => exact ⟨0, lq0, rfl, Nat.zero_le _, HLq0.out, hBW3.out, hMW3.out, hKW3.out, hZW3.out, hCW3.out, hOW3.out, hRW3.out⟩
      case round =>
        obtain ⟨k, lq, rfl, hk, hln, HB, HMr, HK, HZ, HC, HOb, HRs⟩ := hrel
        have hlN := hide hln
        clear hln
        by_cases hlt : k < nq
        · have hlt' : (k : Int) < nq := by omega
          have hkl : k < lq.length := by rw [hlN.out]; exact hlt
          obtain ⟨A2, c2, e2, _, hat⟩ := rw_at qlC_len HC.out.row
          obtain ⟨g, o, rfl, hgg, hgl, hcap, hc⟩ := hat k hkl
          rw [hlN.out] at e2
          cases e2
          have p0 : wr.cell? ⟨g, o + k * 7, none⟩ = (qlC lq[k])[0]? := (hc 0 (by omega)).1
          have p1 : wr.cell? ⟨g, o + k * 7 + 1, none⟩ = (qlC lq[k])[1]? := (hc 1 (by omega)).1
          have p2 : wr.cell? ⟨g, o + k * 7 + 2, none⟩ = (qlC lq[k])[2]? := (hc 2 (by omega)).1
          have p3 : wr.cell? ⟨g, o + k * 7 + 3, none⟩ = (qlC lq[k])[3]? := (hc 3 (by omega)).1
          have p4 : wr.cell? ⟨g, o + k * 7 + 4, none⟩ = (qlC lq[k])[4]? := (hc 4 (by omega)).1
          have p5 : wr.cell? ⟨g, o + k * 7 + 5, none⟩ = (qlC lq[k])[5]? := (hc 5 (by omega)).1
          have p6 : wr.cell? ⟨g, o + k * 7 + 6, none⟩ = (qlC lq[k])[6]? := (hc 6 (by omega)).1
          have hwr : wr.cell? ⟨g, o + k * 7 + 2, none⟩ = some lq[k].v := (hc 2 (by omega)).1
          have hfz : wr.frozen? ⟨g, o + k * 7 + 2, none⟩ = false := (hc 2 (by omega)).2
          have hold := (HC.out.old k hkl (Nat.le_refl _)).2
          have HB0 : Hid (N2 ≤ wr.heap.size) := HMr
          have HGg : Hid (N2 ≤ g) := HC.out.gbB g hgg
          have HMl : Hid (∀ W, Below wr.heap.size wr W → RdE 1 IntAt W lq[k].v lq[k].q.fr) := fun W hW => (hold.below stb_int HB.out).below stb_int hW
          have hbdk : lq[k].q.fr.length ≤ 1000000 := HBD.out _ (by rw [← HC.out.boxes]; exact List.mem_map.2 ⟨_, List.getElem_mem hkl, rfl⟩)
          have HSt : Hid (∀ w1 v' G', Below wr.heap.size wr w1 → Rw w1 1 v' lq[k].q.fr.length (lq[k].q.fr.flatMap inC) G' → (∀ g, G' = some g → wr.heap.size ≤ g) → CQ w N2 (w1.setCell ⟨g, o + k * 7 + 2, none⟩ v') qs (.slice (some ⟨g, o, none⟩) nq dq) gq (k + 1) (lq.set k ⟨lq[k].q, v', G'⟩)) := fun w1 v' G' h1 h2 h3 => by
            have hrow := HC.out
            rw [hgg] at hrow ⊢
            rw [← hlN.out] at hrow ⊢
            exact hrow.step hkl h1 h2 h3 HB0.out
          have HLs : Hid (∀ y, (lq.set k y).length = nq) := fun y => by rw [List.length_set]; exact hlN.out
          clear hat hc hold
          obtain ⟨x, hx⟩ : ∃ x, lq[k] = x := ⟨_, rfl⟩
          rw [hx] at p0 p1 p2 p3 p4 p5 p6 hwr HMl HSt hbdk
          obtain ⟨Am, cm, hxv⟩ := (HMl.out _ (Below.refl _ _)).form
          obtain ⟨lm, hlm⟩ : ∃ lm, x.q.fr.length = lm := ⟨_, rfl⟩
          have HCl : Hid (∀ W, Below wr.heap.size wr W → Calls Tryz.prog 25 #[.slice Am lm cm] W fun e w' => ∃ v' G, e = .returned v' ∧ Below W.heap.size W w' ∧ Rw w' 1 v' lm (x.q.fr.flatMap inC) G ∧ ∀ g, G = some g → W.heap.size ≤ g) := fun W hW => by
            have h1 := HMl.out W hW
            rw [hxv, hlm] at h1
            have h2 := pclInt_rd h1 hbdk
            rwa [hlm] at h2
          rw [hlm] at hxv HSt
          simp only [qlC, hxv, List.getElem?_cons_zero, List.getElem?_cons_succ] at p0 p1 p2 p3 p4 p5 p6 hwr
          clear HMl hxv hbdk hx hlm hwr
          have hwr := p2
          obtain ⟨W9, hW9⟩ : ∃ W9, Hid (wr.alloc (.cells #[.int .i64 x.q.id, .string ⟨x.q.frm.toArray⟩, .slice Am lm cm, .int .i64 x.q.born, .int .i64 x.q.tries, .int .i64 x.q.due, .string ⟨x.q.body.toArray⟩] 71) = W9) := ⟨_, hide rfl⟩
          have hB9 : Hid (Below wr.heap.size wr W9) := by rw [← hW9.out]; exact (Below.refl _ _).alloc (Nat.le_refl _) _
          have HK9 : Hid (Blk W9 w.heap.size #[.slice Bb nb db, .slice Bs ns ds, .slice (some ⟨g, o, none⟩) nq dq, .int .i64 nv, .int .i64 ni] 28) := HK.out.below hB9.out HK.out.lt
          have HN9 : Hid (Blk W9 wr.heap.size #[.int .i64 x.q.id, .string ⟨x.q.frm.toArray⟩, .slice Am lm cm, .int .i64 x.q.born, .int .i64 x.q.tries, .int .i64 x.q.due, .string ⟨x.q.body.toArray⟩] 71) := by rw [← hW9.out]; exact Blk.new _ _ _
          have hs9 : Hid (W9.heap.size = wr.heap.size + 1) := by show _ = _; rw [← hW9.out]; simp
          replace HCl : Hid (∀ W, Below W9.heap.size W9 W → Calls Tryz.prog 25 #[.slice Am lm cm] W fun e w' => ∃ v' G, e = .returned v' ∧ Below W.heap.size W w' ∧ Rw w' 1 v' lm (x.q.fr.flatMap inC) G ∧ ∀ g, G = some g → W.heap.size ≤ g) := fun W hW => HCl.out W (hB9.out.trans (hW.mono hB9.out.size))
          go_wp2
          rw [hW9.out]
          refine regionL 8 (fun W => W.cell? ⟨w.heap.size, 2, none⟩ = some (.slice (some ⟨g, o, none⟩) nq dq) ∧ W.cell? ⟨wr.heap.size, 2, none⟩ = some (.slice Am lm cm)) (by kernel_rfl) ?_
          have HT0 : W9.drew.cell? ⟨w.heap.size, 2, none⟩ = some (.slice (some ⟨g, o, none⟩) nq dq) ∧ W9.drew.cell? ⟨wr.heap.size, 2, none⟩ = some (.slice Am lm cm) := ⟨HK9.out.cell 2, HN9.out.cell 2⟩
          refine takeW (i := 0) (v := .pointer (some ⟨w.heap.size, 2, none⟩)) rfl (by kernel_rfl) (by kernel_rfl) (by kernel_rfl) rfl (fun _ _ _ h => h) (fun _ => HT0) (Or.inl ⟨by rfl, fun W _ => by go_simp⟩) ?_
          try simp only [Act.put, List.getElem_toArray, List.getElem_cons_succ, List.getElem_cons_zero, List.setIfInBounds_toArray, List.set_cons_zero, List.set_cons_succ]
          refine takeL (i := 1) (v := .slice (some ⟨g, o, none⟩) nq dq) rfl (by kernel_rfl) (by kernel_rfl) (by kernel_rfl) (by kernel_rfl) (by kernel_rfl) (fun _ _ _ h => h) HT0 (Or.inl ⟨by rfl, fun W hW => by obtain ⟨t0, t1⟩ := hW; go_simp⟩) ?_
          try simp only [Act.put, List.getElem_toArray, List.getElem_cons_succ, List.getElem_cons_zero, List.setIfInBounds_toArray, List.set_cons_zero, List.set_cons_succ]
          refine takeW (i := 2) (v := .int .i64 (k : Int)) rfl (by kernel_rfl) (by kernel_rfl) (by kernel_rfl) rfl (fun _ _ _ h => h) (fun _ => HT0) (Or.inl ⟨by rfl, fun W _ => by go_simp⟩) ?_
          try simp only [Act.put, List.getElem_toArray, List.getElem_cons_succ, List.getElem_cons_zero, List.setIfInBounds_toArray, List.set_cons_zero, List.set_cons_succ]
          refine takeW (i := 3) (v := .pointer (some ⟨wr.heap.size, 2, none⟩)) rfl (by kernel_rfl) (by kernel_rfl) (by kernel_rfl) rfl (fun _ _ _ h => h) (fun _ => HT0) (Or.inl ⟨by rfl, fun W _ => by go_simp⟩) ?_
          try simp only [Act.put, List.getElem_toArray, List.getElem_cons_succ, List.getElem_cons_zero, List.setIfInBounds_toArray, List.set_cons_zero, List.set_cons_succ]
          refine takeL (i := 4) (v := .slice Am lm cm) rfl (by kernel_rfl) (by kernel_rfl) (by kernel_rfl) (by kernel_rfl) (by kernel_rfl) (fun _ _ _ h => h) HT0 (Or.inl ⟨by rfl, fun W hW => by obtain ⟨t0, t1⟩ := hW; go_simp⟩) ?_
          try simp only [Act.put, List.getElem_toArray, List.getElem_cons_succ, List.getElem_cons_zero, List.setIfInBounds_toArray, List.set_cons_zero, List.set_cons_succ]
          refine readyL (rs := [5]) (by kernel_rfl) (by simp) ?_
          refine AllL.cons rfl (fun K hK => ?_) AllL.nil
          try simp only [List.getElem_toArray, List.getElem_cons_succ, List.getElem_cons_zero]
          go_simp
          refine (HCl.out W9.drew (Below.refl _ _).drew).mono ?_
          rintro e w2 ⟨v2, G2, rfl, hb2, hr2, hg2⟩
          have hbD : Below W9.heap.size W9 w2 := ⟨hb2.os, hb2.tape, hb2.output, hb2.size, hb2.block⟩
          have HT1 : w2.cell? ⟨w.heap.size, 2, none⟩ = some (.slice (some ⟨g, o, none⟩) nq dq) ∧ w2.cell? ⟨wr.heap.size, 2, none⟩ = some (.slice Am lm cm) := ⟨(HK9.out.below hbD HK9.out.lt).cell 2, (HN9.out.below hbD HN9.out.lt).cell 2⟩
          refine hK.out _ _ (fun _ => HT1) (fun _ => ?_)
          clear hK K
          try simp only [Act.put, List.getElem_toArray, List.getElem_cons_succ, List.getElem_cons_zero, List.setIfInBounds_toArray, List.set_cons_zero, List.set_cons_succ]
          clear HT0
          have HT0 := HT1
          clear HT1
          refine takeW (i := 6) (v := .pointer (some ⟨g, o + k * 7, none⟩)) rfl (by kernel_rfl) (by kernel_rfl) (by kernel_rfl) rfl (fun _ _ _ h => h) (fun _ => HT0) (Or.inl ⟨by rfl, fun W _ => by go_simp⟩) ?_
          try simp only [Act.put, List.getElem_toArray, List.getElem_cons_succ, List.getElem_cons_zero, List.setIfInBounds_toArray, List.set_cons_zero, List.set_cons_succ]
          refine takeW (i := 7) (v := .pointer (some ⟨g, o + k * 7 + 2, none⟩)) rfl (by kernel_rfl) (by kernel_rfl) (by kernel_rfl) rfl (fun _ _ _ h => h) (fun _ => HT0) (Or.inl ⟨by rfl, fun W _ => by go_simp⟩) ?_
          try simp only [Act.put, List.getElem_toArray, List.getElem_cons_succ, List.getElem_cons_zero, List.setIfInBounds_toArray, List.set_cons_zero, List.set_cons_succ]
          have s4 : w2.cell? ⟨g, o + k * 7 + 2, none⟩ = some (.slice Am lm cm) := ((hB9.out.trans (hbD.mono hB9.out.size)).cell (p := ⟨g, _, none⟩) hgl).trans hwr
          have s5 : w2.frozen? ⟨g, o + k * 7 + 2, none⟩ = false := (World.frozen?_of_block ((hB9.out.trans (hbD.mono hB9.out.size)).block _ hgl)).trans hfz
          obtain ⟨A3, c3, hv2⟩ := hr2.form
          subst hv2
          refine readyL (rs := [8]) (by kernel_rfl) (by simp) ?_
          refine AllL.cons rfl (fun K hK => ?_) AllL.nil
          try simp only [List.getElem_toArray, List.getElem_cons_succ, List.getElem_cons_zero]
          go_simp
          refine hK.out _ _ (vac (by kernel_rfl)) (fun _ => ?_)
          clear hK K HT0
          refine doneL (by kernel_rfl) ?_ _
          have hbw : Hid (Below wr.heap.size wr w2) := hB9.out.trans (hbD.mono hB9.out.size)
          have HS2 := hide (HSt.out w2 (.slice A3 lm c3) G2 hbw.out hr2 (fun g e => by have h1 := hg2 g e; have h9 := hs9.out; have h3 : W9.drew.heap.size = W9.heap.size := rfl; omega))
          have HB2 : Hid (Below w.heap.size w (w2.setCell ⟨g, o + k * 7 + 2, none⟩ (.slice A3 lm c3))) := (HB.out.trans (hbw.out.mono HB.out.size)).setCell (p := ⟨g, _, none⟩) (by show w.heap.size ≤ g; have := HGg.out; have := HMw.out; omega) _
          have HM2 : Hid (N2 ≤ (w2.setCell ⟨g, o + k * 7 + 2, none⟩ (.slice A3 lm c3)).heap.size) := by have := HMr.out; have := hbw.out.size; show _ ≤ _; simpa [World.setCell] using Nat.le_trans HMr.out hbw.out.size
          have HK2 : Hid (Blk (w2.setCell ⟨g, o + k * 7 + 2, none⟩ (.slice A3 lm c3)) w.heap.size #[.slice Bb nb db, .slice Bs ns ds, .slice (some ⟨g, o, none⟩) nq dq, .int .i64 nv, .int .i64 ni] 28) := (HK.out.below hbw.out HK.out.lt).set_other _ _ (by have := HGg.out; have := HMw.out; dsimp only; omega)
          have HZ2 : Hid (Blk (w2.setCell ⟨g, o + k * 7 + 2, none⟩ (.slice A3 lm c3)) (w.heap.size + 1) #[.slice none 0 0, .slice none 0 0, .slice none 0 0, .int .i64 0, .int .i64 0] 28) := (HZ.out.below hbw.out HZ.out.lt).set_other _ _ (by have := HGg.out; have := HMw.out; dsimp only; omega)
          have HO2 : Hid (OB (w2.setCell ⟨g, o + k * 7 + 2, none⟩ (.slice A3 lm c3)) bs (.slice Bb nb db) gb lb) := ((HOb.out.keep (Mvs.of_below (S := fun _ => False) hbw.out) (fun _ _ c => c)).keep (S := fun j => j = g) ((Mvs.refl _ _).setCell _ _ (fun _ => rfl)) (fun j hj e => by have := HOl.out j hj; have := HGg.out; omega))
          have HR2 : Hid (Rw (w2.setCell ⟨g, o + k * 7 + 2, none⟩ (.slice A3 lm c3)) 2 (.slice Bs ns ds) ns (ss.flatMap sbC) gs) := ((HRs.out.keep (Mvs.of_below (S := fun _ => False) hbw.out) (fun _ _ c => c)).keep (S := fun j => j = g) ((Mvs.refl _ _).setCell _ _ (fun _ => rfl)) (fun j hj e => by have := (HRl.out j hj).2; have := HGg.out; omega))
          clear hr2 hg2 hb2 hbD hbw HSt HK HZ HC HB HK9 HN9 hB9 hs9 HCl
          go_wp2
          go_roundw
          case rel => exact ⟨k + 1, lq.set k ⟨x.q, .slice A3 lm c3, G2⟩, by go_num, by omega, HLs.out _, HB2.out, HM2.out, HK2.out, HZ2.out, HS2.out, HO2.out, HR2.out⟩
          case measure => simp [intOf]; omega
        · obtain rfl : k = nq := by omega
          have hC2 : CQ w N2 wr qs (.slice Bq k dq) gq lq.length lq := by rw [hlN.out]; exact HC.out
          have HOS := hide (HFin.out wr (w.heap.size + 2) N1 N2 _ _ _ _ _ _ _ _ HOb.out hO1l.out (by rw [hns0.out]; exact HRs.out) HRl.out hC2 hM1.out hN12.out HMr.out)
          have q0 := HK.out.cell 0
          have q1 := HK.out.cell 1
          have q2 := HK.out.cell 2
          have q3 := HK.out.cell 3
          have q4 := HK.out.cell 4
          have z0 := HZ.out.cell 0
          have z1 := HZ.out.cell 1
          have z2 := HZ.out.cell 2
          have z3 := HZ.out.cell 3
          have z4 := HZ.out.cell 4
          have y0 := HZ.out.frozen 0
          have y1 := HZ.out.frozen 1
          have y2 := HZ.out.frozen 2
          have y3 := HZ.out.frozen 3
          have y4 := HZ.out.frozen 4
          clear hC2 HC HFin
          go_wp2
          have HZ5 := hide (((((HZ.out.set 0 (.slice Bb nb db)).set 1 (.slice Bs ns ds)).set 2 (.slice Bq k dq)).set 3 (.int .i64 nv)).set 4 (.int .i64 ni))
          have HM5 := hide (((((Mvs.refl (fun j => j = w.heap.size + 1) wr).setCell ⟨w.heap.size + 1, 0, none⟩ (.slice Bb nb db) (fun _ => rfl)).setCell ⟨w.heap.size + 1, 1, none⟩ (.slice Bs ns ds) (fun _ => rfl)).setCell ⟨w.heap.size + 1, 2, none⟩ (.slice Bq k dq) (fun _ => rfl)).setCell ⟨w.heap.size + 1, 3, none⟩ (.int .i64 nv) (fun _ => rfl) |>.setCell ⟨w.heap.size + 1, 4, none⟩ (.int .i64 ni) (fun _ => rfl))
          have HB5 := hide (HB.out.trans (HM5.out.below (B := w.heap.size) (fun j hj e => by omega) HB.out.size))
          have HO5 := hide (HOS.out.keep HM5.out (fun g hg e => by omega))
          exact bodyPost_ret (results_cell_row rfl _ _ (w.heap.size + 1) _ _ (0, 0) _ rfl HZ5.out Tryz.underlying28 rfl (by kernel_rfl)) rfl ⟨_, _, _, _, _, _, _, _, rfl, HB5.out, HO5.out⟩
end Go.Proofs.YtdbmaobjikjifaaGreatDoorR
