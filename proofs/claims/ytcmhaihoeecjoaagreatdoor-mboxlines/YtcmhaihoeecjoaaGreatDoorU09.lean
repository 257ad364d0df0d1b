/- spansOf of package mbox. -/
import Derived.Test.YtcmhaihoeecjoaaGreatDoorU08
namespace Go.Proofs.YtcmhaihoeecjoaaGreatDoor
open Go.RowKit Go.Shelf
attribute [local go_sem] Oper.semAt_some
/-- The state between two lines: the spans so far, the result's second cell, where the next line begins. -/
def SI (w : World) (pre : List (List UInt8)) (W : World) : Prop :=
  (∃ v, Blk W w.heap.size #[v] 34 ∧ Sps (w.heap.size + 6) W v (spans 0 (grp pre).2)) ∧ Blk W (w.heap.size + 1) #[.bool false] 4 ∧ Blk W (w.heap.size + 1 + 1) #[.int .i64 (pre.flatten.length : Nat)] 3 ∧ Below w.heap.size w W ∧ (grp pre).1 = []
theorem SI.keep {w W W' : World} {pre : List (List UInt8)} {S : Nat → Prop} (h : SI w pre W) (hm : Mvs S W W') (h1 : ∀ k, k < w.heap.size + 3 → ¬ S k) (h2 : ∀ k, w.heap.size + 6 ≤ k → ¬ S k) : SI w pre W' := by
  obtain ⟨⟨v, b1, b2⟩, b3, b4, b5, b6⟩ := h
  exact ⟨⟨v, hm.blk b1 (h1 _ (by omega)), b2.keep hm h2⟩, hm.blk b3 (h1 _ (by omega)), hm.blk b4 (h1 _ (by omega)), below_mvs b5 hm (fun k hk => h1 k (by omega)) (Nat.le_refl _), b6⟩
def SX (w : World) (s : List UInt8) (c : Code) (W : World) : Prop :=
  c = .ret ∧ Blk W w.heap.size #[.slice none 0 0] 34 ∧ Blk W (w.heap.size + 1) #[.bool false] 4 ∧ Below w.heap.size w W ∧ scanV s = none
theorem SX.keep {w W W' : World} {s : List UInt8} {c : Code} {S : Nat → Prop} (h : SX w s c W) (hm : Mvs S W W') (h1 : ∀ k, k < w.heap.size + 3 → ¬ S k) : SX w s c W' :=
  ⟨h.1, hm.blk h.2.1 (h1 _ (by omega)), hm.blk h.2.2.1 (h1 _ (by omega)), below_mvs h.2.2.2.1 hm (fun k hk => h1 k (by omega)) (Nat.le_refl _), h.2.2.2.2⟩
def SOut (s : List UInt8) (w : World) (e : Ending) (w' : World) : Prop := Below w.heap.size w w' ∧ match scanV s with
      | some xs => ∃ v, e = .returned (.tuple #[v, .bool true]) ∧ Sps w.heap.size w' v xs
      | none => e = .returned (.tuple #[.slice none 0 0, .bool false])
theorem leave3 {W w : World} {s : List UInt8} {v1 v2 : Value} {tmps : Array Value} {r1 r2 : Nat} (h1 : Blk W r1 #[v1] 34) (h2 : Blk W r2 #[v2] 4) (hO : SOut s w (.returned (.tuple #[v1, v2])) W)
    (ht1 : tmps[2]? = some (.pointer (some ⟨r1, 0, none⟩)) := by rfl) (ht2 : tmps[3]? = some (.pointer (some ⟨r2, 0, none⟩)) := by rfl) :
    LeavesInM Fence.wide 5 Tryz.prog Tryz.f29 tmps (SOut s w) [] .returning W := by
  have c1 := h1.cell
  have c2 := h2.cell
  refine ⟨.tuple #[v1, v2], ?_, hO⟩
  simp [results, Tryz.results29, go_sem, ht1, ht2, c1, c2]
theorem out_no {s : List UInt8} {w w' : World} (h : scanV s = none) (hb : Below w.heap.size w w') : SOut s w (.returned (.tuple #[.slice none 0 0, .bool false])) w' := by
  refine ⟨hb, ?_⟩
  rw [h]
theorem out_yes {s : List UInt8} {w w' : World} {v : Value} {xs : List Sp} (h : scanV s = some xs) (hb : Below w.heap.size w w') (hx : Sps w.heap.size w' v xs) : SOut s w (.returned (.tuple #[v, .bool true])) w' := by
  refine ⟨hb, ?_⟩
  rw [h]
  exact ⟨v, rfl, hx⟩
set_option maxRecDepth 20000 in
set_option maxHeartbeats 1000000 in
theorem spansOf_any (s : List UInt8) (w : World) (hs : s.length ≤ 1000000) :
    Calls Tryz.prog 29 #[.string ⟨s.toArray⟩] w (SOut s w) := by
  obtain ⟨i0, hi, hz0, hz1, hz2⟩ := info_three spInfo
  refine (callsIn_wide (n := 5)).1 ?_
  refine callsIn_of_wp_marks Tryz.func29 rfl trivial ?_ rfl
  simp only [Tryz.ntmps29, List.size_toArray, List.length_cons, List.length_nil, Nat.reduceAdd, Nat.reduceSub, Array.replicate_succ, Array.replicate_zero, List.push_toArray, List.append_toArray, List.nil_append, List.cons_append]
  gi_wp2_with (first
      | (refine ⟨trivial, ?_⟩; gi_at_call 36; refine (callsIn_wide.2 (lines_any s _)).mono ?_; rintro e w' ⟨rfl, rfl⟩))
  obtain ⟨W0, hW0⟩ : ∃ W0, ((((w.alloc (.cells #[.slice none 0 0] 34)).alloc (.cells #[.bool false] 4)).alloc (.cells #[.int .i64 0] 3)).alloc (.cells #[.string ⟨s.toArray⟩] 9)) = W0 := ⟨_, rfl⟩
  have hsz : W0.heap.size = w.heap.size + 4 := by rw [← hW0]; simp
  have hBs : Blk W0 (w.heap.size + 1 + 1 + 1) #[.string ⟨s.toArray⟩] 9 := by
    rw [← hW0]
    have := Blk.new (((w.alloc (.cells #[.slice none 0 0] 34)).alloc (.cells #[.bool false] 4)).alloc (.cells #[.int .i64 0] 3)) #[.string ⟨s.toArray⟩] 9
    simpa using this
  have hI0 : SI w [] W0 := by
    rw [← hW0]
    exact ⟨⟨_, (((Blk.new w _ _).alloc _).alloc _).alloc _, Sps.nil _ _⟩, ((Blk.new1 w _ _ _).alloc _).alloc _, (Blk.new2 w _ _ _ _).alloc _, (((((Below.refl _ _).alloc (Nat.le_refl _) _).alloc (by simp) _).alloc (by simp; omega) _).alloc (by simp; omega) _), rfl⟩
  rw [hW0]
  clear hW0
  have HSZ := hide hsz
  have hsub : ∀ k, (k < w.heap.size + 3 ∨ w.heap.size + 6 ≤ k) → ¬ Own3 (w.heap.size + 1 + 1 + 1) W0.heap.size k := by rintro k hk (h | h | h) <;> omega
  clear hsz
  refine range_lines (by omega) (s := s) (Bs := w.heap.size + 1 + 1 + 1) (by omega) rfl rfl hBs (SI w) (SX w s)
    (fun pre W W' h _ hm => h.keep hm (fun k hk => hsub k (.inl hk)) (fun k hk => hsub k (.inr hk)))
    (fun c W W' h _ hm => h.keep hm (fun k hk => hsub k (.inl hk))) hI0
    (fun x => { tmps := #[.string ⟨s.toArray⟩, undef, .pointer (some ⟨w.heap.size, 0, none⟩), .pointer (some ⟨w.heap.size + 1, 0, none⟩), .pointer (some ⟨w.heap.size + 1 + 1, 0, none⟩), .string ⟨x.toArray⟩, undef, undef, undef, undef, undef, .string ⟨s.toArray⟩,
      .func (.func 73) #[] #[.pointer (some ⟨w.heap.size + 1 + 1 + 1, 0, none⟩)], .string ⟨x.toArray⟩, undef, undef, undef, undef, undef, undef, undef, undef, undef, undef, undef, undef, undef, undef, undef, undef, undef, undef, undef, undef, undef, undef, undef, undef, undef, undef, undef, undef, undef, undef, undef, undef, undef, undef, undef, undef, undef, undef, undef, undef, undef, undef], defers := [] }) ?assign ?body ?done ?stop
  case assign =>
    intro l x W K hK
    gi_wp2
    exact hK
  case body =>
    rintro l pre x W ⟨⟨v, b1, b2⟩, b3, b4, b5, b6⟩ hpost hlt hr hu hd
    have hfl := post_flat hpost
    have HL := hide (looks_any x W)
    have hbsz := b5.size
    have hc1 := b1.cell 0
    have hf1 := b1.frozen 0
    have hc4 := b4.cell 0
    have hf4 := b4.frozen 0
    have hlt1 := b1.lt
    have hlt4 := b4.lt
    have B1 := hide b1
    have B2 := hide b2
    have B3 := hide b3
    have B4 := hide b4
    have B5 := hide b5
    have HP := hide hpost
    obtain ⟨n, hn⟩ : ∃ n, pre.flatten.length = n := ⟨_, rfl⟩
    have HN := hide hn
    rw [hn] at hfl hc4 B4
    clear b1 b2 b3 b4 b5 hpost hu hd hr hn
    cases hx : sepB x with
    | true =>
      rw [hx] at HL
      have HST := hide (step_sep b6 hx)
      rw [HN.out] at HST
      clear hx b6
      obtain ⟨xs, hxs⟩ : ∃ xs, spans 0 (grp pre).2 = xs := ⟨_, rfl⟩
      have HXL : Hid (xs.length ≤ 1000000) := by
        show _ ≤ _
        rw [← hxs, spans_len]
        have h1 := grp_count pre
        have h2 := (pre_le HP.out).1
        omega
      rw [hxs] at B2 HST
      clear hxs
      obtain ⟨G, hr, hg⟩ := B2.out
      obtain ⟨A, c, rfl⟩ := hr.form
      replace hr := hide hr
      replace hg := hide hg
      gi_wp2_with (first
        | (refine ⟨trivial, ?_⟩; gi_at_call 52; refine (CallsIn.inRound l (callsIn_wide.2 HL.out)).mono ?_; rintro e w' ⟨rfl, rfl⟩)
        | (gi_at_builtin; refine wpListIn_append_rw rfl _ _ 34 34 rfl 42 i0 (.agg #[.int .i64 0, .int .i64 0, .int .i64 0]) 3 24 Tryz.underlying34 hi hz0 hz1 hz2 rfl rfl (hr.out.keep (S := fun _ => False) ((Mvs.refl _ _).alloc _) (fun _ _ c => c)) _ 1 _ rfl (src_sp _ _ _) (by simp only [maxLen]; have := HXL.out; omega) (by have := HXL.out; omega) ?_))
      intro v1 w1 G1 hr1 hm1 hg1
      have hmw : Mvs (fun k => some k = G) w' w1 := ((Mvs.refl _ _).alloc _).trans' hm1 (fun _ _ h => h)
      have hGn : ∀ k, k < w.heap.size + 6 → ¬ some k = G := fun k hk e => by have := hg.out k e.symm; omega
      have N1 := hide (hmw.blk B1.out (hGn _ (by omega)))
      have N3 := hide (hmw.blk B3.out (hGn _ (by omega)))
      have N4 := hide (hmw.blk B4.out (hGn _ (by omega)))
      have N5 := hide (below_mvs B5.out hmw (fun k hk => hGn k (by omega)) (Nat.le_refl _))
      have hsz1 := hmw.size
      have d1 := N1.out.cell 0
      have d2 := N1.out.frozen 0
      have d3 := N4.out.cell 0
      have d4 := N4.out.frozen 0
      have HM := hide hmw
      have NR : Hid (Sps (w.heap.size + 6) w1 v1 (xs ++ [⟨n, n + x.length, n + x.length⟩])) := by
        refine ⟨G1, ?_, ?_⟩
        · rw [spC_snoc, List.length_append]
          exact hr1
        · rintro g rfl
          rcases hg1 with e | e
          · exact hg.out g e.symm
          · have := Option.some.inj e
            have := HSZ.out
            omega
      obtain ⟨A1, c1, rfl⟩ := hr1.form
      clear hr1 hm1 hg1 hr hmw
      gi_wp2
      refine ⟨Kept3.mvs (S := fun k => k < w.heap.size + 3 ∨ some k = G) (((HM.out.mono (fun _ _ h => .inr h)).setCell _ _ (fun _ => .inl (by dsimp only; omega))).setCell _ _ (fun _ => .inl (by dsimp only; omega))) (fun k hk => ?_), ⟨.slice A1 (xs.length + 1) c1, ?_, ?_⟩, ?_, ?_, ?_, HST.out.2⟩
      · have h1 : ¬ (k < w.heap.size + 3 ∨ w.heap.size + 6 ≤ k) := fun h => hsub k h hk
        have := HSZ.out
        refine ⟨by omega, ?_⟩
        rintro (h | h)
        · omega
        · exact hGn k (by omega) h
      · exact (N1.out.set 0 _).set_other _ _ (by simp; omega)
      · rw [HST.out.1]
        exact NR.out.keep (S := fun k => k < w.heap.size + 3) (((Mvs.refl _ _).setCell _ _ (fun _ => by dsimp only; omega)).setCell _ _ (fun _ => by dsimp only; omega)) (fun k hk => by omega)
      · exact (N3.out.set_other _ _ (by simp)).set_other _ _ (by simp)
      · have := (N4.out.set_other ⟨w.heap.size, 0, none⟩ (.slice A1 (xs.length + 1) c1) (by simp; omega)).set 0 (.int .i64 ((n : Int) + (x.length : Int)))
        rw [List.flatten_append, List.length_append, HN.out]
        simpa using this
      · exact (N5.out.setCell (p := ⟨w.heap.size, 0, none⟩) (Nat.le_refl _) _).setCell (p := ⟨w.heap.size + 1 + 1, 0, none⟩) (by dsimp only; omega) _
    | false =>
      rw [hx] at HL
      have HSX := hide hx
      have H6 := hide b6
      clear hx b6
      by_cases hne : spans 0 (grp pre).2 = []
      · have HBAD : Hid (scanV s = none) := by
          obtain ⟨post, hp⟩ := HP.out
          exact step_bad H6.out HSX.out hne hp
        rw [hne] at B2
        obtain ⟨G, hr, hg⟩ := B2.out
        obtain ⟨A, c, rfl⟩ := hr.form
        have hc3 := B3.out.cell 0
        have hf3 := B3.out.frozen 0
        clear hne hr hg
        gi_wp2_with (first
          | (refine ⟨trivial, ?_⟩; gi_at_call 52; refine (CallsIn.inRound l (callsIn_wide.2 HL.out)).mono ?_; rintro e w' ⟨rfl, rfl⟩))
        refine ⟨fun k hk => ?_, rfl, (B1.out.set 0 _).set_other _ _ (by simp), (B3.out.set_other _ _ (by simp)).set 0 _, (B5.out.setCell (p := ⟨w.heap.size, 0, none⟩) (Nat.le_refl _) _).setCell (p := ⟨w.heap.size + 1, 0, none⟩) (by simp) _, HBAD.out⟩
        have hk3 : ¬ (k < w.heap.size + 3 ∨ w.heap.size + 6 ≤ k) := fun h => hsub k h hk
        exact (heap_setCell_other (by omega)).trans (heap_setCell_other (by omega))
      · obtain ⟨xs, p, e1, e2, e3⟩ := step_non H6.out HSX.out hne
        rw [HN.out] at e2
        have HXS := hide (And.intro e2 e3)
        have HXL : Hid (xs.length + 1 ≤ 1000000) := by
          show _ ≤ _
          have h0 := congrArg List.length e1
          rw [spans_len] at h0
          simp at h0
          have h1 := grp_count pre
          have h2 := (pre_le HP.out).1
          omega
        rw [e1] at B2
        obtain ⟨g, o, cap, rfl, q1, q2, q3, q4, ⟨u, q5⟩, q6, q7⟩ := B2.out.setEnd (n + x.length)
        have Q7 := hide q7
        have hxl := HXL.out
        clear hne e1 e2 e3 q7 B2
        gi_wp2_with (first
          | (refine ⟨trivial, ?_⟩; gi_at_call 52; refine (CallsIn.inRound l (callsIn_wide.2 HL.out)).mono ?_; rintro e w' ⟨rfl, rfl⟩))
        have hcast : (((n + x.length : Nat)) : Int) = (n : Int) + (x.length : Int) := by omega
        rw [hcast] at Q7
        refine ⟨fun k hk => ?_, ⟨.slice (some ⟨g, o, none⟩) (xs.length + 1) cap, ?_, ?_⟩, ?_, ?_, ?_, HXS.out.2⟩
        · have hk3 : ¬ (k < w.heap.size + 3 ∨ w.heap.size + 6 ≤ k) := fun h => hsub k h hk
          exact (heap_setCell_other (by omega)).trans (Below.heap_setCell _ _ _ _ (by dsimp only; omega))
        · exact (B1.out.set_other _ _ (by dsimp only; omega)).set_other _ _ (by dsimp only; omega)
        · rw [HXS.out.1]
          exact Q7.out.keep (S := fun k => k < w.heap.size + 3) ((Mvs.refl _ _).setCell _ _ (fun _ => by dsimp only; omega)) (fun k hk => by omega)
        · exact (B3.out.set_other _ _ (by dsimp only; omega)).set_other _ _ (by dsimp only; omega)
        · have := (B4.out.set_other ⟨g, o + xs.length * 3 + 2, none⟩ (.int .i64 ((n : Int) + (x.length : Int))) (by dsimp only; omega)).set 0 (.int .i64 ((n : Int) + (x.length : Int)))
          rw [List.flatten_append, List.length_append, HN.out]
          simpa using this
        · exact (B5.out.setCell (p := ⟨g, o + xs.length * 3 + 2, none⟩) (by dsimp only; omega) _).setCell (p := ⟨w.heap.size + 1 + 1, 0, none⟩) (by dsimp only; omega) _
  case done =>
    rintro W ⟨⟨v, b1, b2⟩, b3, b4, b5, b6⟩ hK
    have HSC := hide (scan_of b6)
    have HIN := hide (scan_in b6)
    have HXL : Hid ((spans 0 (grp (splitS s)).2).length ≤ 1000000) := by
      show _ ≤ _
      rw [spans_len]
      have h1 := grp_count (splitS s)
      have h2 := splitS_len s
      omega
    obtain ⟨xs, hxs⟩ : ∃ xs, spans 0 (grp (splitS s)).2 = xs := ⟨_, rfl⟩
    rw [hxs] at b2 HSC HIN HXL
    clear hxs b6 b4
    obtain ⟨A, c, rfl⟩ : ∃ A c, v = .slice A xs.length c := by
      obtain ⟨G, hr, _⟩ := b2
      exact hr.form
    have hWs := (Array.getElem?_eq_some_iff.1 hK).1
    have hc1 := b1.cell 0
    have hlt1 := b1.lt
    have B1 := hide b1
    have B2 := hide b2
    have B3 := hide b3
    have B5 := hide b5
    have HK := hide hK
    clear b1 b2 b3 b5 hK
    gi_wp2
    gi_loopw [46] (fun i wr => ∃ k : Nat, k ≤ xs.length ∧ i = .int .i64 k ∧ Hid ((xs.take k).all (holdsB s) = true) ∧ Hid (Blk wr w.heap.size #[.slice A xs.length c] 34) ∧ Hid (Sps (w.heap.size + 6) wr (.slice A xs.length c) xs) ∧ Hid (Blk wr (w.heap.size + 1) #[.bool false] 4) ∧ Hid (Below w.heap.size w wr) ∧ Hid (wr.heap[W0.heap.size]? = some (.deferred (some [])))) (fun i _ => xs.length - (intOf i).toNat)
    case atStart => exact ⟨0, Nat.zero_le _, rfl, by simp [Hid], B1, B2, B3, B5, HK⟩
    case round =>
      clear B1 B2 B3 B5 HK hc1 hlt1 hWs
      obtain ⟨k, hk, rfl, HA, B1, B2, B3, B5, HK⟩ := hrel
      have hc1 := B1.out.cell 0
      have hf1 := B1.out.frozen 0
      have hc3 := B3.out.cell 0
      have hf3 := B3.out.frozen 0
      have hlt1 := B1.out.lt
      have hlt3 := B3.out.lt
      have hxl := HXL.out
      by_cases hlt : k < xs.length
      · obtain ⟨g, o, cap, ev, q1, q2, q3, q4, q5, q6, q7, _⟩ := B2.out.read k hlt
        obtain ⟨rfl, rfl⟩ : A = some ⟨g, o, none⟩ ∧ c = cap := by cases ev; exact ⟨rfl, rfl⟩
        obtain ⟨r1, r2, r3⟩ := HIN.out _ (List.getElem_mem hlt)
        have HH := hide (fun w => holds_any s xs[k] w hs r2 r3)
        have HP : Hid (∃ p, xs[k] = p) := ⟨_, rfl⟩
        obtain ⟨p, hp⟩ := HP.out
        have HPE := hide hp
        rw [hp] at HH q5 q6 q7
        have hlt' : (k : Int) < xs.length := by omega
        clear ev hp HP r1 r2 r3
        cases hb : holdsB s p with
        | true =>
          rw [hb] at HH
          have HB := hide hb
          clear hb
          gi_wp2_with (first
            | (refine ⟨trivial, ?_⟩; gi_at_call 53; refine (callsIn_wide.2 (HH.out _)).mono ?_; rintro e w2 ⟨rfl, hb2⟩; replace hb2 := hide hb2))
          have hbA : Below wr.heap.size wr w2 := ((Below.refl _ _).alloc (Nat.le_refl _) _).trans (hb2.out.mono (by simp))
          have hlow := HSZ.out
          go_roundw
          case rel =>
            refine ⟨k + 1, by omega, by go_num, ?_, B1.out.below hbA hlt1, B2.out.below hbA, B3.out.below hbA hlt3, B5.out.trans (hbA.mono B5.out.size), (hbA.block _ (Array.getElem?_eq_some_iff.1 HK.out).1).trans HK.out⟩
            show _ = _
            rw [List.take_succ_eq_append_getElem hlt, List.all_append, HA.out, HPE.out]
            simp [HB.out]
          case measure => simp [intOf]; omega
        | false =>
          rw [hb] at HH
          have HN : Hid (scanV s = none) := by
            show _ = _
            rw [HSC.out, if_neg]
            intro h
            rw [List.all_eq_true] at h
            have := h _ (List.getElem_mem hlt)
            rw [HPE.out, hb] at this
            cases this
          clear hb
          gi_wp2_with (first
            | (refine ⟨trivial, ?_⟩; gi_at_call 53; refine (callsIn_wide.2 (HH.out _)).mono ?_; rintro e w2 ⟨rfl, hb2⟩
               have hbA : Below wr.heap.size wr w2 := ((Below.refl _ _).alloc (Nat.le_refl _) _).trans (hb2.mono (by simp))
               have m1 := (B1.out.below hbA hlt1).cell 0
               have m2 := (B1.out.below hbA hlt1).frozen 0
               have m3 := (B3.out.below hbA hlt3).cell 0
               have m4 := (B3.out.below hbA hlt3).frozen 0
               replace hbA := hide hbA; clear hb2))
          have hK2 := (hbA.out.block _ (Array.getElem?_eq_some_iff.1 HK.out).1).trans HK.out
          have hlow := HSZ.out
          have hK5 : ((w2.setCell ⟨w.heap.size, 0, none⟩ (.slice none 0 0)).setCell ⟨w.heap.size + 1, 0, none⟩ (.bool false)).heap[W0.heap.size]? = some (.deferred (some [])) := (heap_setCell_other (by omega)).trans ((heap_setCell_other (by omega)).trans hK2)
          have h1' := ((B1.out.below hbA.out hlt1).set 0 (.slice none 0 0)).set_other ⟨w.heap.size + 1, 0, none⟩ (.bool false) (by simp)
          have h2' := ((B3.out.below hbA.out hlt3).set_other ⟨w.heap.size, 0, none⟩ (.slice none 0 0) (by simp)).set 0 (.bool false)
          have hbF := ((B5.out.trans (hbA.out.mono B5.out.size)).setCell (p := ⟨w.heap.size, 0, none⟩) (Nat.le_refl _) (.slice none 0 0)).setCell (p := ⟨w.heap.size + 1, 0, none⟩) (by simp) (.bool false)
          refine ⟨by simp, .inl ⟨_, _, rfl, run_takeDeferred hK5, ?_⟩⟩
          exact leave3 (h1'.putObj _ (by omega)) (h2'.putObj _ (by omega)) (out_no HN.out (hbF.trans (belowK_b (w := w) (Nat.le_refl _) _ _ _ _ (by omega) hK5 rfl rfl)))
      · obtain rfl : k = xs.length := by omega
        have HN : Hid (scanV s = some xs) := by
          show _ = _
          have := HA.out
          rw [List.take_length] at this
          rw [HSC.out, if_pos this]
        gi_wp2
        have hlow := HSZ.out
        have hK5 : ((wr.setCell ⟨w.heap.size, 0, none⟩ (.slice A xs.length c)).setCell ⟨w.heap.size + 1, 0, none⟩ (.bool true)).heap[W0.heap.size]? = some (.deferred (some [])) := (heap_setCell_other (by omega)).trans ((heap_setCell_other (by omega)).trans HK.out)
        have h1' := (B1.out.set 0 (.slice A xs.length c)).set_other ⟨w.heap.size + 1, 0, none⟩ (.bool true) (by simp)
        have h2' := (B3.out.set_other ⟨w.heap.size, 0, none⟩ (.slice A xs.length c) (by simp)).set 0 (.bool true)
        have hbF := (B5.out.setCell (p := ⟨w.heap.size, 0, none⟩) (Nat.le_refl _) (.slice A xs.length c)).setCell (p := ⟨w.heap.size + 1, 0, none⟩) (by simp) (.bool true)
        have hsF := B2.out.keep (S := fun k => k < w.heap.size + 3) (((Mvs.refl _ _).setCell ⟨w.heap.size, 0, none⟩ (.slice A xs.length c) (fun _ => by dsimp only; omega)).setCell ⟨w.heap.size + 1, 0, none⟩ (.bool true) (fun _ => by dsimp only; omega)) (fun k hk => by omega)
        refine ⟨by simp, .inl ⟨_, _, rfl, run_takeDeferred hK5, ?_⟩⟩
        refine leave3 (h1'.putObj _ (by omega)) (h2'.putObj _ (by omega)) (out_yes HN.out (hbF.trans (belowK_b (w := w) (Nat.le_refl _) _ _ _ _ (by omega) hK5 rfl rfl)) ?_)
        exact (hsF.keep (mvs_putObj (S := fun k => k = W0.heap.size) _ _ _ rfl) (fun k hk => by omega)).mono (by omega)
  case stop =>
    rintro c W ⟨rfl, h1, h2, hbW, ha⟩ hK
    have HD : Hid (scanV s = none) := ha
    have := HSZ.out
    gi_wp2
    refine ⟨by simp, .inl ⟨_, _, rfl, run_takeDeferred hK, ?_⟩⟩
    exact leave3 (h1.putObj _ (by omega)) (h2.putObj _ (by omega)) (out_no HD.out (hbW.trans (belowK_b (w := w) (Nat.le_refl _) W _ _ _ (by omega) hK rfl rfl)))
end Go.Proofs.YtcmhaihoeecjoaaGreatDoor
