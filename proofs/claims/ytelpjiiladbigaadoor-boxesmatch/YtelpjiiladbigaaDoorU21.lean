/- runsOf of package boxes. -/
import Derived.Test.YtelpjiiladbigaaDoorU15
import Derived.Test.YtelpjiiladbigaaDoorU20
set_option linter.unusedSimpArgs false
set_option linter.unusedVariables false
namespace Go.Proofs.YtelpjiiladbigaaDoor
open Go.RowKit Go.Shelf
attribute [local go_sem] Oper.semAt_some
theorem Fn.avoid {lo L : Nat} {G : Option Nat} {W : World} {R : Nat → World → Prop} (h : Fn lo none W R) (hL : L ≤ lo) (hG : ∀ g, G = some g → g < lo) : Fn L G W R := by
  obtain ⟨F, h1, h2⟩ := h
  exact ⟨F, fun k hk => ⟨Nat.le_trans hL (h1 k hk).1, (h1 k hk).2.1, fun e => by have := hG k e.symm; have := (h1 k hk).1; omega⟩, h2⟩
theorem runInfo : (Tryd.prog.info? 66).map (fun i => (i.zero, i.size, i.bytes)) = some (some (.slice none 0 0), 1, 24) := by kernel_rfl
theorem runsT_snoc (x : List UInt8) : ∀ pre : List (List UInt8), runsT (pre ++ [x]) = runsT pre ++ [runL (if pre = [] then x else 37 :: x)]
  | [] => rfl
  | y :: ys => by simp [runsT]
theorem runsT_len (pre : List (List UInt8)) : (runsT pre).length = pre.length := by cases pre <;> simp [runsT]
theorem runs_leave {W w : World} {tmps : Array Value} {v : Value} {P : List UInt8} (ht : tmps[2]? = some v) (hb : Below w.heap.size w W) (hf : Fn w.heap.size none W (fun B W' => Rd B (E2 B) W' v (runsL P))) :
    LeavesInM Fence.wide 5 Tryd.prog Tryd.f33 tmps (fun e w' => ∃ v, e = .returned v ∧ Below w.heap.size w w' ∧ Fn w.heap.size none w' (fun B W' => Rd B (E2 B) W' v (runsL P))) [] .returning W := by
  refine ⟨v, ?_, v, rfl, hb, hf⟩
  simp [results, Tryd.results33, go_sem, ht]
set_option maxRecDepth 20000 in
set_option maxHeartbeats 2000000 in
theorem runsOf_fn {B : Nat} {w : World} (hM : MX B w) (hB : B ≤ w.heap.size) (P : List UInt8) (hP : P.length ≤ 10000) :
    Calls Tryd.prog 33 #[.string ⟨P.toArray⟩] w fun e w' => ∃ v, e = .returned v ∧ Below w.heap.size w w' ∧ Fn w.heap.size none w' (fun B W' => Rd B (E2 B) W' v (runsL P)) := by
  have HM := hide hM
  have hsl : (simL P).length ≤ 10000 := by
    have h1 := simF_len P []
    have h2 : simL P = P.foldl simS [] := rfl
    rw [h2]
    simp at h1
    omega
  have HSi := hide (fun w => simplest_any P w (by omega))
  have HRL : Hid (runsL P = runsT (spc 42 (simL P))) := rfl
  clear hM
  obtain ⟨t, ht⟩ : ∃ t, simL P = t := ⟨_, rfl⟩
  rw [ht] at hsl HSi HRL
  clear ht
  refine (callsIn_wide (n := 5)).1 ?_
  refine callsIn_of_wp_marks Tryd.func33 rfl trivial ?_ rfl
  simp only [Tryd.ntmps33, List.size_toArray, List.length_cons, List.length_nil, Nat.reduceAdd, Nat.reduceSub, Array.replicate_succ, Array.replicate_zero, List.push_toArray, List.append_toArray, List.nil_append, List.cons_append]
  gi_wp2_with (first
    | (refine ⟨trivial, ?_⟩; gi_at_call 50; refine (callsIn_wide.2 (HSi.out _)).mono ?_; rintro e w1 ⟨rfl, hb1⟩)
    | (refine ⟨trivial, ?_⟩; gi_at_call 26; refine (callsIn_wide.2 (splitSeq_anyS 42 t _)).mono ?_; rintro e w' ⟨rfl, rfl⟩))
  have hbox : Blk w1 w.heap.size #[.slice none 0 0] 47 := (Blk.new w _ _).below hb1 (by simp)
  have hbw1 : Below w.heap.size w w1 := ((Below.refl _ _).alloc (Nat.le_refl _) _).trans (hb1.mono (by simp))
  have hs1 : w.heap.size + 1 ≤ w1.heap.size := by have := hb1.size; simpa using this
  clear hb1
  obtain ⟨n1, hn1⟩ : ∃ n1, w1.heap.size = n1 := ⟨_, rfl⟩
  obtain ⟨W0, hW0⟩ : ∃ W0, ((w1.alloc (.cells #[.string ⟨t.toArray⟩] 9)).alloc (.cells #[.string ⟨#[42]⟩] 9)).alloc (.cells #[.int .i64 0] 3) = W0 := ⟨_, rfl⟩
  have hsz : W0.heap.size = n1 + 3 := by rw [← hW0, ← hn1]; simp
  have hb0 : Below w.heap.size w W0 := by rw [← hW0]; exact ((hbw1.alloc hbw1.size _).alloc (by have := hbw1.size; simp; omega) _).alloc (by have := hbw1.size; simp; omega) _
  have hBr : Blk W0 w.heap.size #[.slice none 0 0] 47 := by rw [← hW0]; exact ((hbox.alloc _).alloc _).alloc _
  have hBs : Blk W0 n1 #[.string ⟨t.toArray⟩] 9 := by rw [← hW0]; exact ((Blk.new_atS (by rw [← hn1])).alloc _).alloc _
  have hBp : Blk W0 (n1 + 1) #[.string ⟨#[42]⟩] 9 := by rw [← hW0]; exact (Blk.new_atS (by rw [← hn1]; simp)).alloc _
  have hBq : Blk W0 (n1 + 2) #[.int .i64 0] 3 := by rw [← hW0]; exact Blk.new_atS (by rw [← hn1]; simp)
  rw [hW0]
  simp only [hn1]
  rw [hn1] at hs1
  clear hW0 hbox hbw1 hn1
  have hsub : ∀ k, (k < n1 ∨ n1 + 5 ≤ k) → ¬ Own5S n1 (n1 + 1) (n1 + 2) W0.heap.size k := by rintro k hk (h | h | h | h | h) <;> omega
  refine range_splitS (c0 := 42) (by omega) (s := t) (Bs := n1) (Bp := n1 + 1) (Bq := n1 + 2) (by omega) (by omega) (by omega) rfl rfl hBs hBp hBq
    (fun pre W => (∃ v G, Blk W w.heap.size #[v] 47 ∧ GRow E2 (n1 + 5) W v (runsT pre) G) ∧ Below w.heap.size w W)
    (fun c W => False)
    (fun pre W W' h hm => by
      obtain ⟨⟨v, G, h1, h2⟩, h3⟩ := h
      exact ⟨⟨v, G, hm.blk h1 (hsub _ (.inl (by omega))), h2.keep hm (fun k hk => hsub k (.inr hk))⟩, below_mvsS h3 hm (fun k hk => hsub k (.inl (by omega))) (Nat.le_refl _)⟩)
    (fun c W W' h hm => h) ⟨⟨_, none, hBr, GRow.nil _ _ _⟩, hb0⟩
    (fun x => { tmps := #[.string ⟨P.toArray⟩, undef, .slice none 0 0, .pointer (some ⟨w.heap.size, 0, none⟩), .string ⟨x.toArray⟩, .string ⟨P.toArray⟩, .string ⟨t.toArray⟩,
      .func (.func 60) #[] #[.pointer (some ⟨n1 + 1, 0, none⟩), .pointer (some ⟨n1, 0, none⟩), .pointer (some ⟨n1 + 2, 0, none⟩)], .string ⟨x.toArray⟩, undef, undef, undef, undef, undef, undef, undef, undef, undef, undef, undef], defers := [] }) ?assign ?body ?done ?stop
  case assign =>
    intro l x W K hK
    gi_wp2
    exact hK
  case body =>
    rintro l pre x W ⟨⟨v, G, hf, hg⟩, hbW⟩ hpost hlt
    have hxl : x.length ≤ 10000 ∧ pre.length ≤ 10000 := by
      obtain ⟨post, hp⟩ := hpost
      refine ⟨Nat.le_trans (spc_size t x (by rw [← hp]; simp)) hsl, ?_⟩
      have h1 := spc_len 42 t
      rw [← hp, List.length_append, List.length_cons] at h1
      omega
    obtain ⟨us, hr, hul, hgl, hel⟩ := hg.rw'
    obtain ⟨A, c, rfl⟩ := hr.form
    obtain ⟨i0, hi, hz0, hz1, hz2⟩ := info_three runInfo
    have HMW0 := hide (HM.out.keep ((hbW.drew).mono hB))
    have HRO : Hid (∀ y : List UInt8, y.length ≤ 100000 → Calls Tryd.prog 51 #[.string ⟨y.toArray⟩] W.drew fun e w' => ∃ v, e = .returned v ∧ Below W.heap.size W w' ∧ Fn W.heap.size none w' (fun B W' => Rd B (E1 B) W' v (runL y))) := fun y hy => (runOf_any HMW0.out (Nat.le_trans hB hbW.size) y hy).mono fun e w' h => by
      obtain ⟨v, he, hb, hf⟩ := h
      exact ⟨v, he, (Below.refl _ W).drew.trans hb, hf⟩
    have hpl : (runsT pre).length ≤ 10000 := by rw [runsT_len]; exact hxl.2
    have hfc := hf.cell 0
    have hff := hf.frozen 0
    have hGn : ∀ k, k < n1 + 5 → some k ≠ G := fun k hk e => by have := hgl k e.symm; omega
    have HF := hide hf
    have HBW := hide hbW
    have HR := hide hr
    have HEl := hide hel
    have HUL := hide hul
    have HGL := hide hgl
    have hlo : w.heap.size < W.heap.size := hf.lt
    have hL6 : n1 + 5 ≤ W.heap.size := by omega
    have hkp : (runsT pre).length = pre.length := runsT_len pre
    clear hf hbW hr hel hul hgl hg hpost
    obtain ⟨k, hk⟩ : ∃ k, Hid ((runsT pre).length = k) := ⟨_, hide rfl⟩
    rw [hk.out] at HR hpl HF hfc hkp
    by_cases hp0 : pre = []
    · have hk0 : k = 0 := by rw [hkp, hp0]; rfl
      obtain ⟨y, hy⟩ : ∃ y, Hid (y = x) := ⟨_, hide rfl⟩
      have HY : Hid (runsT (pre ++ [x]) = runsT pre ++ [runL y]) := by show _ = _; rw [runsT_snoc, if_pos hp0, hy.out]
      replace HRO := hide (HRO.out y (by rw [hy.out]; omega))
      obtain rfl : y = x := hy.out
      have hkn : ¬ ((k : Int) > 0) := by omega
      clear hk0 hkp hp0 hy
      gi_wp2
      refine regionI 5 (fun W1 => W1.cell? ⟨w.heap.size, 0, none⟩ = some (.slice A k c)) (by kernel_rfl) (by kernel_rfl) ?_
      have HT0 : W.drew.cell? ⟨w.heap.size, 0, none⟩ = some (.slice A k c) := hfc
      refine takeL (i := 0) (v := (.slice A k c)) rfl (by kernel_rfl) (by kernel_rfl) (by kernel_rfl) (by kernel_rfl) (by kernel_rfl) (fun _ _ _ h => absurd h.1 (by simp)) HT0 (Or.inl ⟨by rfl, fun W1 hW1 => by go_simp⟩) ?_
      simp only [Act.put, List.getElem_toArray, List.getElem_cons_succ, List.getElem_cons_zero, List.setIfInBounds_toArray, List.set_cons_zero, List.set_cons_succ]
      refine takeW (i := 1) (v := (.string ⟨y.toArray⟩)) rfl (by kernel_rfl) (by kernel_rfl) (by kernel_rfl) rfl (fun _ _ _ h => absurd h.1 (by simp)) (fun _ => HT0) (Or.inl ⟨by rfl, fun W1 _ => by go_simp⟩) ?_
      simp only [Act.put, List.getElem_toArray, List.getElem_cons_succ, List.getElem_cons_zero, List.setIfInBounds_toArray, List.set_cons_zero, List.set_cons_succ]
      refine readyL (rs := [2]) (by kernel_rfl) (by simp) ?_
      refine AllL.cons rfl (fun K hK => ?_) AllL.nil
      try simp only [List.getElem_toArray, List.getElem_cons_succ, List.getElem_cons_zero]
      go_simp
      refine HRO.out.mono ?_
      rintro e w2 ⟨v2, rfl, hb2, hfn⟩
      obtain ⟨A2, cap2, rfl⟩ := Rd.form hfn.get
      have HFN := hide (hfn.avoid (L := n1 + 5) hL6 (G := G) (fun g e => HR.out.lt g e))
      clear hfn HRO
      have hm2 : Mvs (fun _ => False) W w2 := Mvs.of_below hb2
      have hq2 := hb2.size
      refine hK.out _ _ (fun _ => (hm2.cell (a := ⟨w.heap.size, 0, none⟩) hlo (fun c => c)).trans hfc) (fun HTn => ?_)
      clear hK K HT0
      have HT0 := HTn (by kernel_rfl)
      clear HTn
      try simp only [Act.put, List.getElem_toArray, List.getElem_cons_succ, List.getElem_cons_zero, List.setIfInBounds_toArray, List.set_cons_zero, List.set_cons_succ]
      refine readyL (rs := [3]) (by kernel_rfl) (by simp) ?_
      refine AllL.cons rfl (fun K hK => ?_) AllL.nil
      try simp only [List.getElem_toArray, List.getElem_cons_succ, List.getElem_cons_zero]
      go_simp
      refine hK.out _ _ (fun _ => ((hm2.alloc _).cell (a := ⟨w.heap.size, 0, none⟩) hlo (fun c => c)).trans hfc) (fun HTn => ?_)
      clear hK K HT0
      have HT0 := HTn (by kernel_rfl)
      clear HTn
      refine readyL (rs := [4]) (by kernel_rfl) (by simp) ?_
      refine AllL.cons rfl (fun K hK => ?_) AllL.nil
      refine step_append_rw (by rfl) (.tmp 14) (.tmp 17) 47 47 (by rfl) 66 i0 (.slice none 0 0) 1 24 Tryd.underlying47 hi hz0 hz1 hz2 (by rfl) (by simp [Act.eval, Act.put]) (HR.out.keep (hm2.alloc _) (fun _ _ c => c)) (.slice (some ⟨w2.heap.size, 0, none⟩) 1 1) 1 [.slice A2 (runL y).length cap2] (by simp [Act.eval, Act.put]) (src_bx _ 66 47 rfl Tryd.underlying47) (by simp only [maxLen]; omega) (by omega) ?_
      intro v3 w3 G3 hr3 hm3 hg3
      obtain ⟨A3, c3, rfl⟩ := hr3.form
      have hmw : Mvs (fun k => some k = G) W w3 := ((hm2.alloc _).mono (fun _ _ h => h.elim)).trans' hm3 (fun _ _ h => h)
      refine hK.out _ _ (fun _ => (hmw.cell (a := ⟨w.heap.size, 0, none⟩) hlo (hGn w.heap.size (by omega))).trans hfc) (fun HTn => ?_)
      clear hK K HT0
      have HT0 := HTn (by kernel_rfl)
      clear HTn
      simp only [Act.put, List.getElem_toArray, List.getElem_cons_succ, List.getElem_cons_zero, List.setIfInBounds_toArray, List.set_cons_zero, List.set_cons_succ]
      have NB := hide (hmw.blk HF.out (hGn w.heap.size (by omega)))
      have d1 := NB.out.cell 0
      have d2 := NB.out.frozen 0
      have NR : Hid (GRow E2 (n1 + 5) w3 (.slice A3 (k + 1) c3) (runsT (pre ++ [y])) G3) := by
        show GRow _ _ _ _ _ _
        rw [HY.out]
        refine GRow.grow (us := us) (u := .slice A2 (runL y).length cap2) HGL.out HUL.out (fun i hi => ?_) (HFN.out.keep (S := fun _ => False) ((Mvs.refl _ _).alloc _) (fun _ _ _ c => c)) (by simp; omega) (by rw [hk.out]; exact hr3) hm3 hg3
        obtain ⟨u, hu, hf⟩ := HEl.out i hi
        exact ⟨u, hu, hf.keep (hm2.alloc _) (fun _ _ _ c => c)⟩
      have HMW := hide hmw
      clear hr3 hm3 hg3 hmw HFN HEl HR
      refine readyL (rs := [5]) (by kernel_rfl) (by simp) ?_
      refine AllL.cons rfl (fun K hK => ?_) AllL.nil
      try simp only [List.getElem_toArray, List.getElem_cons_succ, List.getElem_cons_zero]
      go_simp
      refine hK.out _ _ (vac (by kernel_rfl)) (fun _ => ?_)
      clear hK K HT0
      refine doneL (by kernel_rfl) ⟨rfl, ?_⟩ _
      gi_wp2
      refine ⟨fun j hj => ?_, ⟨.slice A3 (k + 1) c3, G3, NB.out.set 0 _, NR.out.keep (S := fun j => j = w.heap.size) ((Mvs.refl _ _).setCell _ _ (fun _ => rfl)) (fun j hj e => by have e' : j = w.heap.size := e; omega)⟩, ?_⟩
      · have hj2 : ¬ (j < n1 ∨ n1 + 5 ≤ j) := fun h => hsub j h hj
        rw [heap_setCell_otherS (by omega)]
        exact HMW.out.block j (by omega) (hGn j (by omega))
      · exact (below_mvsS HBW.out HMW.out (fun k hk => hGn k (by omega)) (Nat.le_refl _)).setCell (p := ⟨w.heap.size, 0, none⟩) (Nat.le_refl _) _
    · have hk0 : 0 < k := by
        rw [hkp]
        cases pre with
        | nil => exact absurd rfl hp0
        | cons => simp
      obtain ⟨y, hy⟩ : ∃ y, y = 37 :: x := ⟨_, rfl⟩
      have HY : Hid (runsT (pre ++ [x]) = runsT pre ++ [runL y]) := by show _ = _; rw [runsT_snoc, if_neg hp0, hy]
      replace HRO := hide (HRO.out y (by rw [hy, List.length_cons]; omega))
      have hcat : (⟨#[37]⟩ : ByteArray) ++ ⟨x.toArray⟩ = ⟨y.toArray⟩ := by rw [hy]; exact cat_lit [37] x
      have hkn : (k : Int) > 0 := by omega
      have hbx : 1 + x.length ≤ 9223372036854775807 := by omega
      clear hy hkp hp0
      gi_wp2
      refine regionI 5 (fun W1 => W1.cell? ⟨w.heap.size, 0, none⟩ = some (.slice A k c)) (by kernel_rfl) (by kernel_rfl) ?_
      have HT0 : W.drew.cell? ⟨w.heap.size, 0, none⟩ = some (.slice A k c) := hfc
      refine takeL (i := 0) (v := (.slice A k c)) rfl (by kernel_rfl) (by kernel_rfl) (by kernel_rfl) (by kernel_rfl) (by kernel_rfl) (fun _ _ _ h => absurd h.1 (by simp)) HT0 (Or.inl ⟨by rfl, fun W1 hW1 => by go_simp⟩) ?_
      simp only [Act.put, List.getElem_toArray, List.getElem_cons_succ, List.getElem_cons_zero, List.setIfInBounds_toArray, List.set_cons_zero, List.set_cons_succ]
      refine takeW (i := 1) (v := (.string ⟨y.toArray⟩)) rfl (by kernel_rfl) (by kernel_rfl) (by kernel_rfl) rfl (fun _ _ _ h => absurd h.1 (by simp)) (fun _ => HT0) (Or.inl ⟨by rfl, fun W1 _ => by go_simp⟩) ?_
      simp only [Act.put, List.getElem_toArray, List.getElem_cons_succ, List.getElem_cons_zero, List.setIfInBounds_toArray, List.set_cons_zero, List.set_cons_succ]
      refine readyL (rs := [2]) (by kernel_rfl) (by simp) ?_
      refine AllL.cons rfl (fun K hK => ?_) AllL.nil
      try simp only [List.getElem_toArray, List.getElem_cons_succ, List.getElem_cons_zero]
      go_simp
      refine HRO.out.mono ?_
      rintro e w2 ⟨v2, rfl, hb2, hfn⟩
      obtain ⟨A2, cap2, rfl⟩ := Rd.form hfn.get
      have HFN := hide (hfn.avoid (L := n1 + 5) hL6 (G := G) (fun g e => HR.out.lt g e))
      clear hfn HRO
      have hm2 : Mvs (fun _ => False) W w2 := Mvs.of_below hb2
      have hq2 := hb2.size
      refine hK.out _ _ (fun _ => (hm2.cell (a := ⟨w.heap.size, 0, none⟩) hlo (fun c => c)).trans hfc) (fun HTn => ?_)
      clear hK K HT0
      have HT0 := HTn (by kernel_rfl)
      clear HTn
      try simp only [Act.put, List.getElem_toArray, List.getElem_cons_succ, List.getElem_cons_zero, List.setIfInBounds_toArray, List.set_cons_zero, List.set_cons_succ]
      refine readyL (rs := [3]) (by kernel_rfl) (by simp) ?_
      refine AllL.cons rfl (fun K hK => ?_) AllL.nil
      try simp only [List.getElem_toArray, List.getElem_cons_succ, List.getElem_cons_zero]
      go_simp
      refine hK.out _ _ (fun _ => ((hm2.alloc _).cell (a := ⟨w.heap.size, 0, none⟩) hlo (fun c => c)).trans hfc) (fun HTn => ?_)
      clear hK K HT0
      have HT0 := HTn (by kernel_rfl)
      clear HTn
      refine readyL (rs := [4]) (by kernel_rfl) (by simp) ?_
      refine AllL.cons rfl (fun K hK => ?_) AllL.nil
      refine step_append_rw (by rfl) (.tmp 14) (.tmp 17) 47 47 (by rfl) 66 i0 (.slice none 0 0) 1 24 Tryd.underlying47 hi hz0 hz1 hz2 (by rfl) (by simp [Act.eval, Act.put]) (HR.out.keep (hm2.alloc _) (fun _ _ c => c)) (.slice (some ⟨w2.heap.size, 0, none⟩) 1 1) 1 [.slice A2 (runL y).length cap2] (by simp [Act.eval, Act.put]) (src_bx _ 66 47 rfl Tryd.underlying47) (by simp only [maxLen]; omega) (by omega) ?_
      intro v3 w3 G3 hr3 hm3 hg3
      obtain ⟨A3, c3, rfl⟩ := hr3.form
      have hmw : Mvs (fun k => some k = G) W w3 := ((hm2.alloc _).mono (fun _ _ h => h.elim)).trans' hm3 (fun _ _ h => h)
      refine hK.out _ _ (fun _ => (hmw.cell (a := ⟨w.heap.size, 0, none⟩) hlo (hGn w.heap.size (by omega))).trans hfc) (fun HTn => ?_)
      clear hK K HT0
      have HT0 := HTn (by kernel_rfl)
      clear HTn
      simp only [Act.put, List.getElem_toArray, List.getElem_cons_succ, List.getElem_cons_zero, List.setIfInBounds_toArray, List.set_cons_zero, List.set_cons_succ]
      have NB := hide (hmw.blk HF.out (hGn w.heap.size (by omega)))
      have d1 := NB.out.cell 0
      have d2 := NB.out.frozen 0
      have NR : Hid (GRow E2 (n1 + 5) w3 (.slice A3 (k + 1) c3) (runsT (pre ++ [x])) G3) := by
        show GRow _ _ _ _ _ _
        rw [HY.out]
        refine GRow.grow (us := us) (u := .slice A2 (runL y).length cap2) HGL.out HUL.out (fun i hi => ?_) (HFN.out.keep (S := fun _ => False) ((Mvs.refl _ _).alloc _) (fun _ _ _ c => c)) (by simp; omega) (by rw [hk.out]; exact hr3) hm3 hg3
        obtain ⟨u, hu, hf⟩ := HEl.out i hi
        exact ⟨u, hu, hf.keep (hm2.alloc _) (fun _ _ _ c => c)⟩
      have HMW := hide hmw
      clear hr3 hm3 hg3 hmw HFN HEl HR
      refine readyL (rs := [5]) (by kernel_rfl) (by simp) ?_
      refine AllL.cons rfl (fun K hK => ?_) AllL.nil
      try simp only [List.getElem_toArray, List.getElem_cons_succ, List.getElem_cons_zero]
      go_simp
      refine hK.out _ _ (vac (by kernel_rfl)) (fun _ => ?_)
      clear hK K HT0
      refine doneL (by kernel_rfl) ⟨rfl, ?_⟩ _
      gi_wp2
      refine ⟨fun j hj => ?_, ⟨.slice A3 (k + 1) c3, G3, NB.out.set 0 _, NR.out.keep (S := fun j => j = w.heap.size) ((Mvs.refl _ _).setCell _ _ (fun _ => rfl)) (fun j hj e => by have e' : j = w.heap.size := e; omega)⟩, ?_⟩
      · have hj2 : ¬ (j < n1 ∨ n1 + 5 ≤ j) := fun h => hsub j h hj
        rw [heap_setCell_otherS (by omega)]
        exact HMW.out.block j (by omega) (hGn j (by omega))
      · exact (below_mvsS HBW.out HMW.out (fun k hk => hGn k (by omega)) (Nat.le_refl _)).setCell (p := ⟨w.heap.size, 0, none⟩) (Nat.le_refl _) _
  case done =>
    rintro W ⟨⟨v, G, hf, hg⟩, hbW⟩ hK
    have hcr := hf.cell 0
    have hfn := hg.fn (by
      have := spc_ne 42 t
      cases h : spc 42 t with
      | nil => exact absurd h this
      | cons a b => simp [runsT])
    have HFN := hide hfn
    have HB := hide hbW
    clear hfn hg
    gi_wp2
    refine ⟨by simp, .inl ⟨_, _, rfl, run_takeDeferred hK, ?_⟩⟩
    refine runs_leave (v := v) (by rfl) (HB.out.trans (belowK_b (w := w) (Nat.le_refl _) _ _ _ _ (by omega) hK rfl rfl)) ?_
    rw [HRL.out]
    exact (HFN.out.keep (mvs_putObjS (S := fun j => j = W0.heap.size) _ _ _ rfl) (fun k hk _ e => by have e' : k = W0.heap.size := e; omega)).low (by omega)
  case stop =>
    rintro c W h
    exact h.elim
theorem runsOf_any {B : Nat} {w : World} (hM : MX B w) (hB : B ≤ w.heap.size) (P : List UInt8) (hP : P.length ≤ 10000) :
    Calls Tryd.prog 33 #[.string ⟨P.toArray⟩] w fun e w' => ∃ v, e = .returned v ∧ Below w.heap.size w w' ∧ Rd w'.heap.size (E2 w'.heap.size) w' v (runsL P) :=
  (runsOf_fn hM hB P hP).mono fun e w' h => by
    obtain ⟨v, he, hb, hf⟩ := h
    exact ⟨v, he, hb, hf.get⟩
end Go.Proofs.YtelpjiiladbigaaDoor
