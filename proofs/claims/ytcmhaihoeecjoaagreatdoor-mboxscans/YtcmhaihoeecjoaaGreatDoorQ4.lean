/- Size of package quote. -/
import Derived.Test.YtcmhaihoeecjoaaGreatDoorQ3
namespace Go.Proofs.YtcmhaihoeecjoaaGreatDoor
open Go.RowKit Go.Shelf
attribute [local go_sem] Oper.semAt_some
theorem below_mvs {B : Nat} {w x y : World} {S : Nat → Prop} (h : Below B w x) (hm : Mvs S x y) (hs : ∀ k, k < B → ¬ S k) (hB : B ≤ w.heap.size) : Below B w y := h.trans (hm.below hs (Nat.le_trans hB h.size))
/-- How many of these lines need a mark. -/
def cnt (xs : List (List UInt8)) : Nat := (xs.filter nm).length
theorem cnt_snoc (xs : List (List UInt8)) (x : List UInt8) : cnt (xs ++ [x]) = cnt xs + if nm x then 1 else 0 := by
  unfold cnt
  rw [List.filter_append, List.length_append, List.filter_cons]
  split <;> simp
theorem cnt_le (xs : List (List UInt8)) : cnt xs ≤ xs.length := List.length_filter_le _ _
theorem pre_le {pre : List (List UInt8)} {x : List UInt8} {s : List UInt8} (h : ∃ post, pre ++ x :: post = splitS s) : pre.length < s.length ∧ x.length ≤ s.length := by
  obtain ⟨post, h⟩ := h
  have h1 := splitS_len s
  have h2 := splitS_flat s
  rw [← h] at h1 h2
  rw [← h2]
  simp at h1 ⊢
  rw [← h2] at h1
  simp at h1
  omega
set_option maxRecDepth 20000 in
set_option maxHeartbeats 1000000 in
theorem size_any (s : List UInt8) (w : World) (hs : s.length ≤ 1000000) :
    Calls Tryz.prog 35 #[.string ⟨s.toArray⟩] w fun e w' => e = .returned (.int .i64 ((s.length + 1 + cnt (splitS s) : Nat) : Int)) ∧ Below w.heap.size w w' := by
  refine (callsIn_wide (n := 5)).1 ?_
  refine callsIn_of_wp_marks Tryz.func35 rfl trivial ?_ rfl
  simp only [Tryz.ntmps35, List.size_toArray, List.length_cons, List.length_nil, Nat.reduceAdd, Nat.reduceSub, Array.replicate_succ, Array.replicate_zero, List.push_toArray, List.append_toArray, List.nil_append, List.cons_append]
  gi_wp2_with (first | (refine ⟨trivial, ?_⟩; gi_at_call 36; refine (callsIn_wide.2 (lines_any s _)).mono ?_; rintro e w' ⟨rfl, rfl⟩))
  obtain ⟨W0, hW0⟩ : ∃ W0, (w.alloc (.cells #[.int .i64 ((s.length : Int) + 1)] 3)).alloc (.cells #[.string ⟨s.toArray⟩] 9) = W0 := ⟨_, rfl⟩
  have hsz : W0.heap.size = w.heap.size + 2 := by rw [← hW0]; simp
  have hb0 : Below w.heap.size w W0 := by rw [← hW0]; exact ((Below.refl _ _).alloc (Nat.le_refl _) _).alloc (by simp) _
  have hBs : Blk W0 (w.heap.size + 1) #[.string ⟨s.toArray⟩] 9 := by rw [← hW0]; exact Blk.new1 _ _ _ _
  have hB0 : Blk W0 w.heap.size #[.int .i64 ((s.length + 1 + cnt [] : Nat) : Int)] 3 := by rw [← hW0]; exact (Blk.new w _ _).alloc _
  rw [hW0]
  clear hW0
  have hsub : ∀ k, k < w.heap.size + 1 → ¬ Own3 (w.heap.size + 1) W0.heap.size k := by rintro k hk (h | h | h) <;> omega
  refine range_lines (by omega) (s := s) (Bs := w.heap.size + 1) (by omega) rfl rfl hBs
    (fun pre W => Blk W w.heap.size #[.int .i64 ((s.length + 1 + cnt pre : Nat) : Int)] 3 ∧ Below w.heap.size w W) (fun _ _ => False)
    (fun pre W W' h _ hm => ⟨hm.blk h.1 (hsub _ (by omega)), below_mvs h.2 hm (fun k hk => hsub k (by omega)) (Nat.le_refl _)⟩) (fun _ _ _ h _ _ => h) ⟨hB0, hb0⟩
    (fun x => { tmps := #[.string ⟨s.toArray⟩, undef, .int .i64 0, .pointer (some ⟨w.heap.size, 0, none⟩), .string ⟨x.toArray⟩, .string ⟨s.toArray⟩, .int .i64 s.length, .int .i64 ((s.length : Int) + 1), .string ⟨s.toArray⟩,
      .func (.func 73) #[] #[.pointer (some ⟨w.heap.size + 1, 0, none⟩)], .string ⟨x.toArray⟩, undef, undef, undef, undef, undef], defers := [] }) ?assign ?body ?done ?stop
  case assign =>
    intro l x W K hK
    gi_wp2
    exact hK
  case body =>
    rintro l pre x W ⟨hi, hbW⟩ hpost hlt _ _ _
    have hp := pre_le hpost
    have hcl := cnt_le pre
    have HC := hide (cnt_snoc pre x)
    have hc := hi.cell
    have hf := hi.frozen
    have HI := hide hi
    have HB := hide hbW
    clear hi hbW hpost
    have HN := hide (needs_any x)
    cases hn : nm x <;> rw [hn] at HN HC
    · clear hn
      gi_wp2_with (refine ⟨trivial, ?_⟩; gi_at_call 72; refine (CallsIn.inRound l (callsIn_wide.2 (HN.out _))).mono ?_; rintro e w' ⟨rfl, rfl⟩)
      refine ⟨Kept3.refl _ _ _, ?_, HB.out⟩
      rw [HC.out]
      exact HI.out
    · clear hn
      gi_wp2_with (refine ⟨trivial, ?_⟩; gi_at_call 72; refine (CallsIn.inRound l (callsIn_wide.2 (HN.out _))).mono ?_; rintro e w' ⟨rfl, rfl⟩)
      refine ⟨?_, ?_, ?_⟩
      · intro k hk
        have : k ≠ w.heap.size := by rcases hk with h | h | h <;> omega
        exact heap_setCell_other this
      · have := HI.out.set 0 (.int .i64 (((s.length : Int) + 1 + cnt pre) + 1))
        rw [HC.out]
        simpa [Int.add_assoc] using this
      · exact HB.out.setCell (p := ⟨w.heap.size, 0, none⟩) (Nat.le_refl _) _
  case done =>
    rintro W ⟨hi, hbW⟩ hK
    have hc := hi.cell
    gi_wp2
    refine ⟨by simp, .inl ⟨_, _, rfl, run_takeDeferred hK, ?_⟩⟩
    exact ⟨_, results_tmp rfl _ _ _, rfl, hbW.trans (belowK_b (w := w) (Nat.le_refl _) W _ _ _ (by omega) hK rfl rfl)⟩
  case stop =>
    rintro c W h _
    exact h.elim
end Go.Proofs.YtcmhaihoeecjoaaGreatDoor
