/- Rows of rows that a call makes; runOf of package boxes. -/
import Derived.Test.YtelpjiiladbigaaDoorU18
import Derived.Test.YtelpjiiladbigaaDoorU19
set_option linter.unusedSimpArgs false
set_option linter.unusedVariables false
namespace Go.Proofs.YtelpjiiladbigaaDoor
open Go.RowKit Go.Shelf
attribute [local go_sem] Oper.semAt_some
/-- What is read in blocks from lo on (but not in block G), whatever happens elsewhere. -/
def Fn (lo : Nat) (G : Option Nat) (W : World) (R : Nat → World → Prop) : Prop :=
  ∃ F : Nat → Prop, (∀ k, F k → lo ≤ k ∧ k < W.heap.size ∧ some k ≠ G) ∧ ∀ W' B, (∀ k, F k → W'.heap[k]? = W.heap[k]?) → (∀ k, F k → k < B) → R B W'
section
variable {lo : Nat} {G G' : Option Nat} {W W' : World} {R : Nat → World → Prop}
theorem Fn.keep {S : Nat → Prop} (h : Fn lo G W R) (hm : Mvs S W W') (hs : ∀ k, lo ≤ k → some k ≠ G → ¬ S k) : Fn lo G W' R := by
  obtain ⟨F, h1, h2⟩ := h
  refine ⟨F, fun k hk => ⟨(h1 k hk).1, Nat.lt_of_lt_of_le (h1 k hk).2.1 hm.size, (h1 k hk).2.2⟩, fun W2 B ha hb => h2 W2 B (fun k hk => ?_) hb⟩
  rw [ha k hk]
  exact hm.block k (h1 k hk).2.1 (hs k (h1 k hk).1 (h1 k hk).2.2)
theorem Fn.other (h : Fn lo G W R) {n : Nat} (hn : W.heap.size ≤ n) : Fn lo (some n) W R := by
  obtain ⟨F, h1, h2⟩ := h
  exact ⟨F, fun k hk => ⟨(h1 k hk).1, (h1 k hk).2.1, fun e => by injection e with e; have := (h1 k hk).2.1; omega⟩, h2⟩
theorem Fn.get (h : Fn lo G W R) : R W.heap.size W := by
  obtain ⟨F, h1, h2⟩ := h
  exact h2 W _ (fun _ _ => rfl) (fun k hk => (h1 k hk).2.1)
theorem Fn.low {l2 : Nat} (h : Fn lo G W R) (hl : l2 ≤ lo) : Fn l2 G W R := by
  obtain ⟨F, h1, h2⟩ := h
  exact ⟨F, fun k hk => ⟨Nat.le_trans hl (h1 k hk).1, (h1 k hk).2⟩, h2⟩
theorem Fn.mono {R' : Nat → World → Prop} (h : Fn lo G W R) (hr : ∀ B W', R B W' → R' B W') : Fn lo G W R' := by
  obtain ⟨F, h1, h2⟩ := h
  exact ⟨F, h1, fun W' B ha hb => hr _ _ (h2 W' B ha hb)⟩
end
section
variable {α : Type} {E : Nat → World → Value → α → Prop} {L : Nat} {W W' : World} {v v' : Value} {xs : List α}
/-- A row under way, whose elements lie elsewhere, all of it in blocks from L on. -/
def GRow (E : Nat → World → Value → α → Prop) (L : Nat) (W : World) (v : Value) (xs : List α) (G : Option Nat) : Prop :=
  ∃ us, Rw W 1 v xs.length us G ∧ (∀ g, G = some g → L ≤ g) ∧ ∀ i (hi : i < xs.length), ∃ u, us[i]? = some u ∧ Fn L G W (fun B W' => E B W' u xs[i])
theorem GRow.nil (E : Nat → World → Value → α → Prop) (L : Nat) (W : World) : GRow E L W (.slice none 0 0) [] none := ⟨[], Rw.nil W 1, fun _ h => (by cases h), fun i hi => absurd hi (by simp)⟩
theorem GRow.keep {G : Option Nat} {S : Nat → Prop} (h : GRow E L W v xs G) (hm : Mvs S W W') (hs : ∀ k, L ≤ k → ¬ S k) : GRow E L W' v xs G := by
  obtain ⟨us, h1, h2, h3⟩ := h
  refine ⟨us, h1.keep hm fun g e => hs g (h2 g e), h2, fun i hi => ?_⟩
  obtain ⟨u, hu, hf⟩ := h3 i hi
  exact ⟨u, hu, hf.keep hm fun k hk _ => hs k hk⟩
theorem GRow.form {G : Option Nat} (h : GRow E L W v xs G) : ∃ A c, v = .slice A xs.length c := by
  obtain ⟨us, h1, _⟩ := h
  exact h1.form
theorem GRow.rw' {G : Option Nat} (h : GRow E L W v xs G) : ∃ us, Rw W 1 v xs.length us G ∧ us.length = xs.length ∧ (∀ g, G = some g → L ≤ g) ∧ ∀ i (hi : i < xs.length), ∃ u, us[i]? = some u ∧ Fn L G W (fun B W' => E B W' u xs[i]) := by
  obtain ⟨us, h1, h2, h3⟩ := h
  exact ⟨us, h1, by rw [h1.1]; omega, h2, h3⟩
/-- One more element, appended: W1 is the world behind the element's making, W' the one behind the append. -/
theorem GRow.grow {G G' : Option Nat} {us : List Value} {u : Value} {x : α} {W1 : World} (hg : ∀ g, G = some g → L ≤ g) (hl : us.length = xs.length) (h3 : ∀ i (hi : i < xs.length), ∃ u, us[i]? = some u ∧ Fn L G W1 (fun B W' => E B W' u xs[i]))
    (hx : Fn L G W1 (fun B W' => E B W' u x)) (hL : L ≤ W1.heap.size) (hr : Rw W' 1 v' (xs.length + 1) (us ++ [u]) G') (hm : Mvs (fun k => some k = G) W1 W') (hG : G' = G ∨ G' = some W1.heap.size) : GRow E L W' v' (xs ++ [x]) G' := by
  have key : ∀ {R : Nat → World → Prop}, Fn L G W1 R → Fn L G' W' R := fun {R} h => by
    have h4 : Fn L G' W1 R := by
      rcases hG with rfl | rfl
      · exact h
      · exact h.other (Nat.le_refl _)
    obtain ⟨F, k1, k2⟩ := h
    obtain ⟨F', j1, j2⟩ := h4
    refine ⟨F, fun k hk => ⟨(k1 k hk).1, Nat.lt_of_lt_of_le (k1 k hk).2.1 hm.size, ?_⟩, fun W2 B ha hb => k2 W2 B (fun k hk => ?_) hb⟩
    · rcases hG with rfl | rfl
      · exact (k1 k hk).2.2
      · intro e
        injection e with e
        have := (k1 k hk).2.1
        omega
    · rw [ha k hk]
      exact hm.block k (k1 k hk).2.1 (k1 k hk).2.2
  refine ⟨us ++ [u], by simpa using hr, fun g e => ?_, fun i hi => ?_⟩
  · rcases hG with h | h
    · exact hg g (h ▸ e)
    · rw [h] at e
      injection e with e
      omega
  · by_cases hlt : i < xs.length
    · obtain ⟨u', hu, hf⟩ := h3 i hlt
      refine ⟨u', by rw [List.getElem?_append_left (by omega)]; exact hu, ?_⟩
      rw [List.getElem_append_left hlt]
      exact key hf
    · obtain rfl : i = xs.length := by simp at hi; omega
      refine ⟨u, by rw [← hl]; simp, ?_⟩
      rw [List.getElem_append_right (Nat.le_refl _)]
      simpa using key hx
/-- The row as it stands in the end: read in blocks of its own. -/
theorem GRow.fn {G : Option Nat} (h : GRow E L W v xs G) (hne : xs ≠ []) : Fn L none W (fun B W' => Rd B (E B) W' v xs) := by
  obtain ⟨us, h1, h2, h3⟩ := h
  rcases h1.2 with ⟨_, h, _⟩ | ⟨g, o, cap, rfl, rfl, k1, k2, k3, k4, k5⟩
  · exact absurd (List.length_eq_zero_iff.1 h) hne
  · refine ⟨fun k => k = g ∨ ∃ F : Nat → Prop, (∀ k, F k → L ≤ k ∧ k < W.heap.size) ∧ (∃ i, ∃ hi : i < xs.length, ∃ u, us[i]? = some u ∧ ∀ W' B, (∀ k, F k → W'.heap[k]? = W.heap[k]?) → (∀ k, F k → k < B) → E B W' u xs[i]) ∧ F k, ?_, ?_⟩
    · rintro k (rfl | ⟨F, hF, _, hk⟩)
      · exact ⟨h2 _ rfl, k3, by simp⟩
      · exact ⟨(hF k hk).1, (hF k hk).2, by simp⟩
    · intro W' B ha hb
      refine ⟨g, o, cap, rfl, k1, hb g (.inl rfl), fun i hi => ?_⟩
      obtain ⟨u, hu, F, f1, f2⟩ := h3 i hi
      have hF : ∀ k, F k → L ≤ k ∧ k < W.heap.size := fun k hk => ⟨(f1 k hk).1, (f1 k hk).2.1⟩
      refine ⟨u, ?_, f2 W' B (fun k hk => ha k (.inr ⟨F, hF, ⟨i, hi, u, hu, f2⟩, hk⟩)) (fun k hk => hb k (.inr ⟨F, hF, ⟨i, hi, u, hu, f2⟩, hk⟩))⟩
      rw [← k4 i u hu]
      exact World.cell?_of_block (ha g (.inl rfl))
end
/-- What strings.Split has made. -/
theorem fn_split {w : World} (ps : List (List UInt8)) {lo : Nat} (hlo : lo ≤ w.heap.size) {G : Option Nat} (hG : ∀ g, G = some g → g < w.heap.size) : Fn lo G (w.alloc (.cells (ps.map svB).toArray 9)) (fun B W' => E1 B W' (.slice (some ⟨w.heap.size, 0, none⟩) ps.length ps.length) ps) := by
  refine ⟨fun k => k = w.heap.size, ?_, ?_⟩
  · rintro k rfl
    exact ⟨hlo, by simp, fun e => by have := hG _ e.symm; omega⟩
  · intro W' B ha hb
    refine ⟨w.heap.size, 0, ps.length, rfl, Nat.le_refl _, hb _ rfl, fun i hi => ⟨svB ps[i], ?_, rfl⟩⟩
    have hk : Blk W' w.heap.size (ps.map svB).toArray 9 := (ha _ rfl).trans (Blk.new w _ _)
    rw [hk.cell]
    simp [List.getElem?_eq_getElem hi]
theorem globInfo : (Tryd.prog.info? 97).map (fun i => (i.zero, i.size, i.bytes)) = some (some (.slice none 0 0), 1, 24) := by kernel_rfl
theorem run_leave {W w : World} {tmps : Array Value} {v : Value} {t : List UInt8} (ht : tmps[2]? = some v) (hb : Below w.heap.size w W) (hf : Fn w.heap.size none W (fun B W' => Rd B (E1 B) W' v (runL t))) :
    LeavesInM Fence.wide 5 Tryd.prog Tryd.f51 tmps (fun e w' => ∃ v, e = .returned v ∧ Below w.heap.size w w' ∧ Fn w.heap.size none w' (fun B W' => Rd B (E1 B) W' v (runL t))) [] .returning W := by
  refine ⟨v, ?_, v, rfl, hb, hf⟩
  simp [results, Tryd.results51, go_sem, ht]
set_option maxRecDepth 20000 in
set_option maxHeartbeats 2000000 in
theorem runOf_any {B : Nat} {w : World} (hM : MX B w) (hB : B ≤ w.heap.size) (t : List UInt8) (ht : t.length ≤ 100000) :
    Calls Tryd.prog 51 #[.string ⟨t.toArray⟩] w fun e w' => ∃ v, e = .returned v ∧ Below w.heap.size w w' ∧ Fn w.heap.size none w' (fun B W' => Rd B (E1 B) W' v (runL t)) := by
  have HM := hide hM
  clear hM
  refine (callsIn_wide (n := 5)).1 ?_
  refine callsIn_of_wp_marks Tryd.func51 rfl trivial ?_ rfl
  simp only [Tryd.ntmps51, List.size_toArray, List.length_cons, List.length_nil, Nat.reduceAdd, Nat.reduceSub, Array.replicate_succ, Array.replicate_zero, List.push_toArray, List.append_toArray, List.nil_append, List.cons_append]
  gi_wp2_with (first | (refine ⟨trivial, ?_⟩; gi_at_call 26; refine (callsIn_wide.2 (splitSeq_anyS 47 t _)).mono ?_; rintro e w' ⟨rfl, rfl⟩))
  obtain ⟨W0, hW0⟩ : ∃ W0, (((w.alloc (.cells #[.slice none 0 0] 66)).alloc (.cells #[.string ⟨t.toArray⟩] 9)).alloc (.cells #[.string ⟨#[47]⟩] 9)).alloc (.cells #[.int .i64 0] 3) = W0 := ⟨_, rfl⟩
  have hsz : W0.heap.size = w.heap.size + 4 := by rw [← hW0]; simp
  have hb0 : Below w.heap.size w W0 := by rw [← hW0]; exact ((((Below.refl _ _).alloc (Nat.le_refl _) _).alloc (by simp) _).alloc (by simp; omega) _).alloc (by simp; omega) _
  have hBr : Blk W0 w.heap.size #[.slice none 0 0] 66 := by rw [← hW0]; exact (((Blk.new w _ _).alloc _).alloc _).alloc _
  have hBs : Blk W0 (w.heap.size + 1) #[.string ⟨t.toArray⟩] 9 := by rw [← hW0]; exact ((Blk.new_atS (by simp)).alloc _).alloc _
  have hBp : Blk W0 (w.heap.size + 2) #[.string ⟨#[47]⟩] 9 := by rw [← hW0]; exact (Blk.new_atS (by simp)).alloc _
  have hBq : Blk W0 (w.heap.size + 3) #[.int .i64 0] 3 := by rw [← hW0]; exact Blk.new_atS (by simp)
  rw [hW0]
  clear hW0
  have hsub : ∀ k, (k < w.heap.size + 1 ∨ w.heap.size + 6 ≤ k) → ¬ Own5S (w.heap.size + 1) (w.heap.size + 2) (w.heap.size + 3) W0.heap.size k := by rintro k hk (h | h | h | h | h) <;> omega
  refine range_splitS (c0 := 47) (by omega) (s := t) (Bs := w.heap.size + 1) (Bp := w.heap.size + 2) (Bq := w.heap.size + 3) (by omega) (by omega) (by omega) rfl rfl hBs hBp hBq
    (fun pre W => (∃ v G, Blk W w.heap.size #[v] 66 ∧ GRow E1 (w.heap.size + 6) W v (pre.map (spc 37)) G) ∧ Below w.heap.size w W)
    (fun c W => False)
    (fun pre W W' h hm => by
      obtain ⟨⟨v, G, h1, h2⟩, h3⟩ := h
      exact ⟨⟨v, G, hm.blk h1 (hsub _ (.inl (by omega))), h2.keep hm (fun k hk => hsub k (.inr hk))⟩, below_mvsS h3 hm (fun k hk => hsub k (.inl (by omega))) (Nat.le_refl _)⟩)
    (fun c W W' h hm => h) ⟨⟨_, none, hBr, GRow.nil _ _ _⟩, hb0⟩
    (fun x => { tmps := #[.string ⟨t.toArray⟩, undef, .slice none 0 0, .pointer (some ⟨w.heap.size, 0, none⟩), .string ⟨x.toArray⟩, .string ⟨t.toArray⟩,
      .func (.func 60) #[] #[.pointer (some ⟨w.heap.size + 1 + 1, 0, none⟩), .pointer (some ⟨w.heap.size + 1, 0, none⟩), .pointer (some ⟨w.heap.size + 1 + 2, 0, none⟩)], .string ⟨x.toArray⟩, undef, undef, undef, undef, undef, undef], defers := [] }) ?assign ?body ?done ?stop
  case assign =>
    intro l x W K hK
    gi_wp2
    exact hK
  case body =>
    rintro l pre x W ⟨⟨v, G, hf, hg⟩, hbW⟩ hpost hlt
    have hxl : x.length ≤ 100000 ∧ pre.length ≤ 100000 := by
      obtain ⟨post, hp⟩ := hpost
      refine ⟨Nat.le_trans (spc_size t x (by rw [← hp]; simp)) ht, ?_⟩
      have h1 := spc_len 47 t
      rw [← hp, List.length_append, List.length_cons] at h1
      omega
    obtain ⟨us, hr, hul, hgl, hel⟩ := hg.rw'
    obtain ⟨A, c, rfl⟩ := hr.form
    obtain ⟨i0, hi, hz0, hz1, hz2⟩ := info_three globInfo
    have HS := hide (split_bo (w := W.drew) (HM.out.keep ((hbW.drew).mono hB)) 37 x (by omega))
    have hpl : (pre.map (spc 37)).length ≤ 100000 := by rw [List.length_map]; exact hxl.2
    have hfc := hf.cell 0
    have hff := hf.frozen 0
    have hGn : ∀ k, k < w.heap.size + 6 → some k ≠ G := fun k hk e => by have := hgl k e.symm; omega
    have HF := hide hf
    have HBW := hide hbW
    have HR := hide hr
    have HEl := hide hel
    have HUL := hide hul
    have HGL := hide hgl
    have hlo : w.heap.size < W.heap.size := hf.lt
    have hL6 : w.heap.size + 6 ≤ W.heap.size := by omega
    clear hf hbW hr hel hul hgl hg hpost
    obtain ⟨k, hk⟩ : ∃ k, Hid ((pre.map (spc 37)).length = k) := ⟨_, hide rfl⟩
    rw [hk.out] at HR hpl HF hfc
    have hxs : ((spc 37 x).map svB).length ≤ 100001 := by rw [List.length_map]; have := spc_len 37 x; omega
    gi_wp2
    refine regionI 5 (fun W1 => W1.cell? ⟨w.heap.size, 0, none⟩ = some (.slice A k c)) (by kernel_rfl) (by kernel_rfl) ?_
    have HT0 : W.drew.cell? ⟨w.heap.size, 0, none⟩ = some (.slice A k c) := hfc
    refine takeL (i := 0) (v := (.slice A k c)) rfl (by kernel_rfl) (by kernel_rfl) (by kernel_rfl) (by kernel_rfl) (by kernel_rfl) (fun _ _ _ h => absurd h.1 (by simp)) HT0 (Or.inl ⟨by rfl, fun W1 hW1 => by go_simp⟩) ?_
    simp only [Act.put, List.getElem_toArray, List.getElem_cons_succ, List.getElem_cons_zero, List.setIfInBounds_toArray, List.set_cons_zero, List.set_cons_succ]
    refine takeW (i := 1) (v := (.string ⟨x.toArray⟩)) rfl (by kernel_rfl) (by kernel_rfl) (by kernel_rfl) rfl (fun _ _ _ h => absurd h.1 (by simp)) (fun _ => HT0) (Or.inl ⟨by rfl, fun W1 _ => by go_simp⟩) ?_
    simp only [Act.put, List.getElem_toArray, List.getElem_cons_succ, List.getElem_cons_zero, List.setIfInBounds_toArray, List.set_cons_zero, List.set_cons_succ]
    refine readyL (rs := [2]) (by kernel_rfl) (by simp) ?_
    refine AllL.cons rfl (fun K hK => ?_) AllL.nil
    try simp only [List.getElem_toArray, List.getElem_cons_succ, List.getElem_cons_zero]
    go_simp
    refine HS.out.mono ?_
    rintro e w2 ⟨rfl, hw2⟩
    have hb2 : Below W.heap.size W w2 := by rw [hw2]; exact (Below.refl _ W).drew.alloc (Nat.le_refl _) _
    have hq2 : w2.heap.size = W.heap.size + 1 := by rw [hw2]; simp
    have hfn := fn_split (w := W.drew) (spc 37 x) (lo := w.heap.size + 6) hL6 (G := G) (fun g e => HR.out.lt g e)
    rw [← hw2] at hfn
    have HFN := hide hfn
    clear hw2 hfn HS
    have hm2 : Mvs (fun _ => False) W w2 := Mvs.of_below hb2
    refine hK.out _ _ (fun _ => (hm2.cell (a := ⟨w.heap.size, 0, none⟩) hlo (fun c => c)).trans hfc) (fun HTn => ?_)
    clear hK K HT0
    have HT0 := HTn (by kernel_rfl)
    clear HTn
    try simp only [Act.put, List.getElem_toArray, List.getElem_cons_succ, List.getElem_cons_zero, List.setIfInBounds_toArray, List.set_cons_zero, List.set_cons_succ]
    refine readyL (rs := [3]) (by kernel_rfl) (by simp) ?_
    refine AllL.cons rfl (fun K hK => ?_) AllL.nil
    try simp only [List.getElem_toArray, List.getElem_cons_succ, List.getElem_cons_zero]
    go_simp
    refine hK.out _ _ (fun _ => ((hm2.alloc _).cell (a := ⟨w.heap.size, 0, none⟩) hlo (fun c => c)).trans hfc) (fun HTn => ?_)
    clear hK K HT0
    have HT0 := HTn (by kernel_rfl)
    clear HTn
    refine readyL (rs := [4]) (by kernel_rfl) (by simp) ?_
    refine AllL.cons rfl (fun K hK => ?_) AllL.nil
    refine step_append_rw (by rfl) (.tmp 8) (.tmp 11) 66 66 (by rfl) 97 i0 (.slice none 0 0) 1 24 Tryd.underlying66 hi hz0 hz1 hz2 (by rfl) (by simp [Act.eval, Act.put]) (HR.out.keep (hm2.alloc _) (fun _ _ c => c)) (.slice (some ⟨w2.heap.size, 0, none⟩) 1 1) 1 [.slice (some ⟨W.heap.size, 0, none⟩) (spc 37 x).length (spc 37 x).length] (by simp [Act.eval, Act.put]) (src_bx _ 97 66 rfl Tryd.underlying66) (by simp only [maxLen]; omega) (by omega) ?_
    intro v3 w3 G3 hr3 hm3 hg3
    obtain ⟨A3, c3, rfl⟩ := hr3.form
    have hmw : Mvs (fun k => some k = G) W w3 := ((hm2.alloc _).mono (fun _ _ h => h.elim)).trans' hm3 (fun _ _ h => h)
    refine hK.out _ _ (fun _ => (hmw.cell (a := ⟨w.heap.size, 0, none⟩) hlo (hGn w.heap.size (by omega))).trans hfc) (fun HTn => ?_)
    clear hK K HT0
    have HT0 := HTn (by kernel_rfl)
    clear HTn
    simp only [Act.put, List.getElem_toArray, List.getElem_cons_succ, List.getElem_cons_zero, List.setIfInBounds_toArray, List.set_cons_zero, List.set_cons_succ]
    have NB := hide (hmw.blk HF.out (hGn w.heap.size (by omega)))
    have d1 := NB.out.cell 0
    have d2 := NB.out.frozen 0
    have NR : Hid (GRow E1 (w.heap.size + 6) w3 (.slice A3 (k + 1) c3) ((pre ++ [x]).map (spc 37)) G3) := by
      show GRow _ _ _ _ _ _
      rw [List.map_append]
      refine GRow.grow (us := us) (u := .slice (some ⟨W.heap.size, 0, none⟩) (spc 37 x).length (spc 37 x).length) HGL.out HUL.out (fun i hi => ?_) (HFN.out.keep (S := fun _ => False) ((Mvs.refl _ _).alloc _) (fun _ _ _ c => c)) (by simp; omega) (by rw [hk.out]; exact hr3) hm3 hg3
      obtain ⟨u, hu, hf⟩ := HEl.out i hi
      exact ⟨u, hu, hf.keep (hm2.alloc _) (fun _ _ _ c => c)⟩
    have HMW := hide hmw
    clear hr3 hm3 hg3 hmw HFN HEl HR
    refine readyL (rs := [5]) (by kernel_rfl) (by simp) ?_
    refine AllL.cons rfl (fun K hK => ?_) AllL.nil
    try simp only [List.getElem_toArray, List.getElem_cons_succ, List.getElem_cons_zero]
    go_simp
    refine hK.out _ _ (vac (by kernel_rfl)) (fun _ => ?_)
    clear hK K HT0
    refine doneL (by kernel_rfl) ⟨rfl, ?_⟩ _
    gi_wp2
    refine ⟨fun j hj => ?_, ⟨.slice A3 (k + 1) c3, G3, NB.out.set 0 _, NR.out.keep (S := fun j => j = w.heap.size) ((Mvs.refl _ _).setCell _ _ (fun _ => rfl)) (fun j hj e => by have e' : j = w.heap.size := e; omega)⟩, ?_⟩
    · have hj2 : ¬ (j < w.heap.size + 1 ∨ w.heap.size + 6 ≤ j) := fun h => hsub j h hj
      rw [heap_setCell_otherS (by omega)]
      exact HMW.out.block j (by omega) (hGn j (by omega))
    · exact (below_mvsS HBW.out HMW.out (fun k hk => hGn k (by omega)) (Nat.le_refl _)).setCell (p := ⟨w.heap.size, 0, none⟩) (Nat.le_refl _) _
  case done =>
    rintro W ⟨⟨v, G, hf, hg⟩, hbW⟩ hK
    have hcr := hf.cell 0
    have hfn := hg.fn (by rw [ne_eq, List.map_eq_nil_iff]; exact spc_ne 47 t)
    have HFN := hide hfn
    have HB := hide hbW
    clear hfn hg
    gi_wp2
    refine ⟨by simp, .inl ⟨_, _, rfl, run_takeDeferred hK, ?_⟩⟩
    refine run_leave (v := v) (by rfl) (HB.out.trans (belowK_b (w := w) (Nat.le_refl _) _ _ _ _ (by omega) hK rfl rfl)) ?_
    exact (HFN.out.keep (mvs_putObjS (S := fun j => j = W0.heap.size) _ _ _ rfl) (fun k hk _ e => by have e' : k = W0.heap.size := e; omega)).low (by omega)
  case stop =>
    rintro c W h
    exact h.elim
end Go.Proofs.YtelpjiiladbigaaDoor
