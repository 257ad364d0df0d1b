/- Encode of package quote. -/
import Derived.Test.YtcmhaihoeecjoaaGreatDoorQ4
import Derived.Test.YtcmhaihoeecjoaaGreatDoorBld
namespace Go.Proofs.YtcmhaihoeecjoaaGreatDoor
open Go.RowKit Go.Shelf
attribute [local go_sem] Oper.semAt_some
theorem size_calls {s : List UInt8} {m : Nat} (hs : s.length ≤ 1000000) (hm : s.length + 1 + cnt (splitS s) = m) (w : World) :
    Calls Tryz.prog 35 #[.string ⟨s.toArray⟩] w fun e w' => e = .returned (.int .i64 (m : Int)) ∧ Below w.heap.size w w' := by
  subst hm
  exact size_any s w hs
theorem strCells_lit (x : List UInt8) : Lib.strCells ⟨x.toArray⟩ = Lib.byteCells x := rfl
theorem byteCells_app (x y : List UInt8) : Lib.byteCells x ++ Lib.byteCells y = Lib.byteCells (x ++ y) := by simp [Lib.byteCells]
theorem byteCells_10 (x : List UInt8) : Lib.byteCells x ++ [.int .u8 10] = Lib.byteCells (x ++ [10]) := by simp [Lib.byteCells]
/-- The lines so far, quoted. -/
def qAll (pre : List (List UInt8)) : List UInt8 := (pre.map quoteL).flatten
theorem qAll_snoc (pre : List (List UInt8)) (x : List UInt8) : qAll (pre ++ [x]) = qAll pre ++ quoteL x := by simp [qAll]
theorem post_flat {pre : List (List UInt8)} {x s : List UInt8} (h : ∃ post, pre ++ x :: post = splitS s) : pre.flatten.length + x.length ≤ s.length := by
  obtain ⟨post, h⟩ := h
  have h2 := splitS_flat s
  rw [← h] at h2
  rw [← h2, List.flatten_append, List.flatten_cons, List.length_append, List.length_append]
  omega
theorem qAll_len {pre : List (List UInt8)} {x s : List UInt8} (h : ∃ post, pre ++ x :: post = splitS s) : (qAll pre).length ≤ 2 * s.length ∧ (quoteL x).length ≤ s.length + 1 := by
  have h1 := post_flat h
  have h2 := pre_le h
  have h3 := quo_len pre
  have h4 := cnt_le pre
  have h5 := quote_len x
  unfold cnt at h4
  unfold qAll
  constructor
  · omega
  · split at h5 <;> omega
set_option maxRecDepth 20000 in
set_option maxHeartbeats 1000000 in
theorem encode_any (s : List UInt8) (w : World) (hs : s.length ≤ 1000000) :
    Calls Tryz.prog 21 #[.string ⟨s.toArray⟩] w fun e w' => e = .returned (.string ⟨(encL s).toArray⟩) ∧ Below w.heap.size w w' := by
  obtain ⟨m, hm⟩ : ∃ m, s.length + 1 + cnt (splitS s) = m := ⟨_, rfl⟩
  have hmle : m ≤ 3000000 := by
    have := cnt_le (splitS s)
    have := splitS_len s
    omega
  have HS := hide (size_calls hs hm)
  clear hm
  refine (callsIn_wide (n := 5)).1 ?_
  refine callsIn_of_wp_marks Tryz.func21 rfl trivial ?_ rfl
  simp only [Tryz.ntmps21, List.size_toArray, List.length_cons, List.length_nil, Nat.reduceAdd, Nat.reduceSub, Array.replicate_succ, Array.replicate_zero, List.push_toArray, List.append_toArray, List.nil_append, List.cons_append]
  gi_wp2_with (first
    | (refine ⟨trivial, ?_⟩; gi_at_call 35; refine (callsIn_wide.2 (HS.out _)).mono ?_; rintro e w1 ⟨rfl, hb1⟩
       have HG := hide (Tryz.Builder_Grow_fresh w.heap.size w.heap.size m w1 (Nat.le_refl _) ((hb1.block _ (by simp)).trans (Blk.new w _ _)) (by have := hb1.size; simp at this; omega) (by omega))
       replace hb1 := hide hb1)
    | (refine ⟨trivial, ?_⟩; gi_at_call 34; refine (callsIn_wide.2 HG.out).mono ?_; rintro e w2 ⟨rfl, hbl2, hb2⟩
       replace hb2 := hide hb2
       replace hbl2 := hide hbl2)
    | (refine ⟨trivial, ?_⟩; gi_at_call 36; refine (callsIn_wide.2 (lines_any s _)).mono ?_; rintro e w' ⟨rfl, rfl⟩))
  obtain ⟨W0, hW0⟩ : ∃ W0, w2.alloc (.cells #[.string ⟨s.toArray⟩] 9) = W0 := ⟨_, rfl⟩
  have hbw2 : Below w.heap.size w w2 := (((Below.refl _ _).alloc (Nat.le_refl _) _).trans (hb1.out.mono (by simp))).trans hb2.out
  have hbl := Lib.IsBuilderF.of (.inr hbl2.out)
  have hlt2 : w.heap.size < w2.heap.size := hbl2.out.lt
  have hsz : W0.heap.size = w2.heap.size + 1 := by rw [← hW0]; simp
  have hb0 : Below w.heap.size w W0 := by rw [← hW0]; exact hbw2.alloc (by omega) _
  have hBs : Blk W0 w2.heap.size #[.string ⟨s.toArray⟩] 9 := by rw [← hW0]; exact Blk.new _ _ _
  have hB0 : Lib.IsBuilderF 67 5 w.heap.size w.heap.size (Lib.byteCells (qAll [])) W0 := by rw [← hW0]; exact hbl.alloc _
  rw [hW0]
  clear hW0 hbl hbw2 hb2 hbl2 hb1 HG
  have hsub : ∀ k, k < w.heap.size + 1 → ¬ Own3 w2.heap.size W0.heap.size k := by rintro k hk (h | h | h) <;> omega
  refine range_lines (by omega) (s := s) (Bs := w2.heap.size) (by omega) rfl rfl hBs
    (fun pre W => Lib.IsBuilderF 67 5 w.heap.size w.heap.size (Lib.byteCells (qAll pre)) W ∧ Below w.heap.size w W) (fun _ _ => False)
    (fun pre W W' h hn hm => ⟨isBuilder_mvs h.1 hm (hsub _ (by omega)) hn, below_mvs h.2 hm (fun k hk => hsub k (by omega)) (Nat.le_refl _)⟩) (fun _ _ _ h _ _ => h) ⟨hB0, hb0⟩
    (fun x => { tmps := #[.string ⟨s.toArray⟩, undef, .string ⟨#[]⟩, .pointer (some ⟨w.heap.size, 0, none⟩), .string ⟨x.toArray⟩, .string ⟨s.toArray⟩, .int .i64 (m : Int), .tuple #[], .string ⟨s.toArray⟩,
      .func (.func 73) #[] #[.pointer (some ⟨w2.heap.size, 0, none⟩)], .string ⟨x.toArray⟩, undef, undef, undef, undef, undef], defers := [] }) ?assign ?body ?done ?stop
  case assign =>
    intro l x W K hK
    gi_wp2
    exact hK
  case body =>
    rintro l pre x W ⟨hi, hbW⟩ hpost hlt hr hu hd
    have hp := pre_le hpost
    have hq := qAll_len hpost
    have HX := hide (qAll_snoc pre x)
    have HQ := hide (quote_any x W (by omega))
    have hbsz := hbW.size
    have HW := hide (Tryz.Builder_WriteString_k w.heap.size w.heap.size _ ⟨(quoteL x).toArray⟩ W hi (by rw [Lib.byteCells_length, size_lit]; omega) hbsz)
    have HK := hide (And.intro hu (And.intro hd hr))
    have HB := hide hbW
    clear hi hbW hpost hu hd hr
    generalize quoteL x = y at HQ HX HW hq
    gi_wp2_with (first
      | (refine ⟨trivial, ?_⟩; gi_at_call 38; refine (CallsIn.inRound l (callsIn_wide.2 HQ.out)).mono ?_; rintro e w' ⟨rfl, rfl⟩)
      | (refine ⟨trivial, ?_⟩; gi_at_call 37; refine (CallsIn.inRound l (callsIn_wide.2 HW.out)).mono ?_; rintro e w3 ⟨rfl, hbl3, hb3, ho3⟩; replace hbl3 := hide hbl3; replace hb3 := hide hb3; replace ho3 := hide ho3))
    obtain ⟨hu, hd, hr⟩ := HK.out
    refine ⟨kept3_others ho3.out hu hd hr (hsub _ (by omega)), ?_, HB.out.trans hb3.out⟩
    rw [HX.out, ← byteCells_app]
    exact .inr hbl3.out
  case done =>
    rintro W ⟨hi, hbW⟩ hK
    have hq : (qAll (splitS s)).length ≤ 3000000 := by
      have h3 := quo_len (splitS s)
      have h4 := cnt_le (splitS s)
      have h5 := splitS_len s
      rw [splitS_flat] at h3
      unfold cnt at h4
      unfold qAll
      omega
    have HW := hide (Tryz.Builder_WriteByte_k w.heap.size w.heap.size _ 10 W hi (by rw [Lib.byteCells_length]; omega) hbW.size)
    rw [byteCells_10] at HW
    have HE : Hid (qAll (splitS s) ++ [10] = encL s) := enc_alt s.length s (Nat.le_refl _)
    have HB := hide hbW
    have HD := hide hK
    have hWs := (Array.getElem?_eq_some_iff.1 hK).1
    have hWw : w.heap.size < W0.heap.size := by omega
    clear hi hbW hK hsz
    gi_wp2_with (first
      | (refine ⟨trivial, ?_⟩; gi_at_call 39; refine (callsIn_wide.2 HW.out).mono ?_; rintro e w3 ⟨rfl, hbl3, hb3, ho3⟩
         have HT := hide (Tryz.Builder_String_any_k w.heap.size w.heap.size (qAll (splitS s) ++ [10]) w3 (.inr hbl3) (Nat.le_trans HB.out.size hb3.size))
         replace hbl3 := hide hbl3; replace hb3 := hide hb3; replace ho3 := hide ho3)
      | (refine ⟨trivial, ?_⟩; gi_at_call 40; refine (callsIn_wide.2 HT.out).mono ?_; rintro e w4 ⟨rfl, hbl4, hb4, ho4⟩; replace hb4 := hide hb4; replace ho4 := hide ho4; clear hbl4))
    have hK4 : w4.heap[W0.heap.size]? = some (.deferred (some [])) := by
      refine ho4.out _ _ (ho3.out _ _ HD.out ?_ ?_) ?_ ?_
      · intro e; have := Option.some.inj e; omega
      · intro c fz e; cases e
      · intro e; have := Option.some.inj e; omega
      · intro c fz e; cases e
    have hbF : Below w.heap.size w w4 := (HB.out.trans hb3.out).trans hb4.out
    refine ⟨by simp, .inl ⟨_, _, rfl, run_takeDeferred hK4, ?_⟩⟩
    exact ⟨_, results_tmp rfl _ _ _, by rw [← HE.out]; rfl, hbF.trans (belowK_b (w := w) (Nat.le_refl _) w4 _ _ _ (by omega) hK4 rfl rfl)⟩
  case stop =>
    rintro c W h _
    exact h.elim
end Go.Proofs.YtcmhaihoeecjoaaGreatDoor
